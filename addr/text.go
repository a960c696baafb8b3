package addr

import (
	"strings"

	"surety/api"
	"surety/num"
)

const (
	// dot is between Type and Name.
	dot = "."
	// opens and shuts stand around a last part, and quote, inside of them, around a key.
	opens = "["
	shuts = "]"
	quote = `"`
	// generation is ahead of an object's N.
	generation = "#"
)

// Print is a's text.
func Print(a api.Addr) string {
	base := a.Type + dot + a.Name
	switch a.Kind {
	case api.IntKey:
		return base + opens + num.Print(a.I) + shuts
	case api.StrKey:
		return base + opens + quote + a.K + quote + shuts
	}
	return base
}

// PrintKey is k's text.
func PrintKey(k api.Key) string {
	return Print(k.A) + generation + num.Print(int64(k.N))
}

// Parse is the address whose text s is.
func Parse(s string) (api.Addr, api.Errno) {
	a := pieces(s)
	// What pieces couldn't tell is left out of a: then s is another text than that of a.
	if Check(a) != api.OK || Print(a) != s {
		return api.Addr{}, api.ErrForm
	}
	return a, api.OK
}

// pieces takes s apart: no Type that may be has a dot, and no Name that may be has what opens a last part.
func pieces(s string) api.Addr {
	t, rest, _ := strings.Cut(s, dot)
	name, last, has := strings.Cut(rest, opens)
	a := api.Addr{Type: t, Name: name}
	if has {
		a.Kind, a.I, a.K = lastPart(strings.TrimSuffix(last, shuts))
	}
	return a
}

// lastPart is what stands between what opens and what shuts it.
func lastPart(s string) (kind int, i int64, k string) {
	if key, ok := strings.CutPrefix(s, quote); ok {
		return api.StrKey, 0, strings.TrimSuffix(key, quote)
	}
	if n, e := num.Parse(s); e == api.OK {
		return api.IntKey, n, ""
	}
	return api.NoKey, 0, ""
}
