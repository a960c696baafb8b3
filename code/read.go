package code

import (
	"surety/api"
	"surety/num"
	"surety/typ"
)

// Get reads the value whose form b begins with.
func Get(b []byte) (v api.Value, used int, e api.Errno) {
	r := reader{b: b}
	v, e = r.value(1)
	if e == api.OK && r.weight > maxWeight {
		e = api.ErrLong
	}
	if e != api.OK {
		return api.Value{}, 0, e
	}
	return v, r.at, api.OK
}

// GetStr reads the text that PutStr laid at b's beginning.
func GetStr(b []byte, most int) (s string, used int, e api.Errno) {
	r := reader{b: b}
	s, e = r.text(most)
	if e != api.OK {
		return "", 0, e
	}
	return s, r.at, api.OK
}

// reader goes through bytes, and counts the values that it met.
type reader struct {
	b      []byte
	at     int
	weight int
}

// value reads one that stands at a depth.
func (r *reader) value(depth int) (api.Value, api.Errno) {
	if depth > api.MaxDepth {
		return api.Value{}, api.ErrDeep
	}
	c, e := r.octet()
	if e != api.OK {
		return api.Value{}, e
	}
	r.weight++
	v := api.Value{Kind: int(c << 1 >> 1), Secret: c>>markBit != 0}
	switch v.Kind {
	case api.VNull:
	case api.VBool:
		v.I, e = r.truth()
	case api.VInt:
		v.I, e = r.number()
	case api.VStr:
		v.S, e = r.text(api.MaxStr)
	case api.VList, api.VMap:
		v.Keys, v.L, e = r.elements(v.Kind == api.VMap, depth+1)
	case api.VUnknown:
		v.T, e = r.unknown()
	default:
		e = api.ErrForm
	}
	return v, e
}

// elements reads those of a list, or a map, at a depth.
func (r *reader) elements(keyed bool, depth int) (keys []string, l []api.Value, e api.Errno) {
	n, e := r.short()
	if e != api.OK {
		return nil, nil, e
	}
	if n > api.MaxItems {
		return nil, nil, api.ErrLong
	}
	for range n {
		if keyed {
			keys, e = r.key(keys)
			if e != api.OK {
				return nil, nil, e
			}
		}
		x, e := r.value(depth)
		if e != api.OK {
			return nil, nil, e
		}
		// Too heavy is told behind all that may still be wrong; till then no more of it is kept.
		if r.weight <= maxWeight {
			l = append(l, x)
		}
	}
	return keys, l, api.OK
}

// key reads one more key, which is to be above those that are read.
func (r *reader) key(keys []string) ([]string, api.Errno) {
	k, e := r.text(api.MaxStr)
	if e != api.OK {
		return nil, e
	}
	if n := len(keys); n > 0 && k <= keys[n-1] {
		return nil, api.ErrForm
	}
	return append(keys, k), api.OK
}

func (r *reader) truth() (int64, api.Errno) {
	c, e := r.octet()
	if e == api.OK && c > 1 {
		e = api.ErrForm
	}
	return int64(c), e
}

func (r *reader) number() (int64, api.Errno) {
	n, e := r.short()
	return num.Zag(n), e
}

func (r *reader) unknown() (api.Type, api.Errno) {
	c, e := r.octet()
	if e != api.OK {
		return api.Type{}, e
	}
	return typ.Of(c)
}

// text reads one of at most so many bytes.
func (r *reader) text(most int) (string, api.Errno) {
	n, e := r.short()
	if e != api.OK {
		return "", e
	}
	if n > uint64(max(most, 0)) {
		return "", api.ErrLong
	}
	if n > uint64(len(r.b)-r.at) {
		return "", api.ErrShort
	}
	from := r.at
	r.at += int(n)
	return string(r.b[from:r.at]), api.OK
}

func (r *reader) short() (uint64, api.Errno) {
	n, used, e := num.GetShort(r.b[r.at:])
	r.at += used
	return n, e
}

func (r *reader) octet() (byte, api.Errno) {
	if r.at == len(r.b) {
		return 0, api.ErrShort
	}
	c := r.b[r.at]
	r.at++
	return c, api.OK
}
