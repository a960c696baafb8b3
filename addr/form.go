package addr

import (
	"slices"

	"surety/api"
	"surety/code"
	"surety/num"
)

// Put lays k's form behind b.
func Put(b []byte, k api.Key) []byte { return slices.Concat(b, form(k)) }

// form is nothing of an object that may not be.
func form(k api.Key) []byte {
	if CheckKey(k) != api.OK {
		return nil
	}
	b := code.PutStr(nil, k.A.Type)
	b = code.PutStr(b, k.A.Name)
	b = append(b, byte(k.A.Kind))
	switch k.A.Kind {
	case api.IntKey:
		b = num.PutShort(b, uint64(k.A.I))
	case api.StrKey:
		b = code.PutStr(b, k.A.K)
	}
	return num.PutShort(b, uint64(k.N))
}

// Get reads the object whose form b begins with.
func Get(b []byte) (k api.Key, used int, e api.Errno) {
	r := reader{b: b}
	k.A = r.addr()
	n := r.short()
	k.N = uint32(n)
	if r.e == api.OK && (uint64(k.N) != n || CheckKey(k) != api.OK) {
		r.e = api.ErrForm
	}
	if r.e != api.OK {
		return api.Key{}, 0, r.e
	}
	return k, r.at, api.OK
}

// reader goes through bytes up to the first fault; behind it, it answers zero values.
type reader struct {
	b  []byte
	at int
	e  api.Errno
}

func (r *reader) addr() api.Addr {
	var a api.Addr
	a.Type = r.text()
	a.Name = r.text()
	a.Kind = r.kind()
	switch a.Kind {
	case api.IntKey:
		// A number that is too great is below 0 then, as no I that may be is.
		a.I = int64(r.short())
	case api.StrKey:
		a.K = r.text()
	}
	return a
}

func (r *reader) kind() int {
	if r.e == api.OK && r.at == len(r.b) {
		r.e = api.ErrShort
	}
	if r.e != api.OK {
		return 0
	}
	kind := int(r.b[r.at])
	if kind > api.StrKey {
		r.e = api.ErrForm
		return 0
	}
	r.at++
	return kind
}

func (r *reader) text() string {
	if r.e != api.OK {
		return ""
	}
	s, used, e := code.GetStr(r.b[r.at:], mostBytes)
	r.at, r.e = r.at+used, e
	return s
}

func (r *reader) short() uint64 {
	if r.e != api.OK {
		return 0
	}
	n, used, e := num.GetShort(r.b[r.at:])
	r.at, r.e = r.at+used, e
	return n
}
