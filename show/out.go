package show

import "surety/api"

// out gathers a text, up to where it would be too long.
type out struct {
	b    []byte
	long bool
}

func (o *out) put(s string) {
	if len(s) > api.MaxText-len(o.b) {
		o.long = true
	}
	if !o.long {
		o.b = append(o.b, s...)
	}
}

// text is what was gathered.
func (o *out) text() (string, api.Errno) {
	if o.long {
		return "", api.ErrLong
	}
	return string(o.b), api.OK
}
