package fun

import (
	"strings"

	"surety/api"
	"surety/num"
	"surety/sha"
)

const (
	textOfTrue  = "true"
	textOfFalse = "false"
	// blanks are the bytes that trim takes away.
	blanks = " \t\n"
	// caseBit is the bit in which a small letter differs from the great one.
	caseBit = 'a' ^ 'A'
)

// text is what a function answers that answers a text.
func text(name string, a []api.Value) (string, api.Errno) {
	switch name {
	case "hash":
		return sha.Hex(sha.Sum([]byte(a[0].S))), api.OK
	case "join":
		return strings.Join(texts(a[1]), a[0].S), api.OK
	case "lower":
		return turned(a[0].S, 'A', 'Z'), api.OK
	case "repeat":
		return repeated(a[0].S, a[1].I)
	case "replace":
		return replaced(a[0].S, a[1].S, a[2].S)
	case "substr":
		return piece(a[0].S, a[1].I, a[2].I)
	case "text":
		return textOf(a[0])
	case "trim":
		return strings.Trim(a[0].S, blanks), api.OK
	case "upper":
		return turned(a[0].S, 'a', 'z'), api.OK
	}
	return "", api.ErrName
}

// texts are the texts of a list of texts.
func texts(v api.Value) []string {
	l := make([]string, len(v.L))
	for i, x := range v.L {
		l[i] = x.S
	}
	return l
}

// turned is s, the letters between these two great instead of small, or small instead of great. It goes byte by byte, as a text needn't be of runes.
func turned(s string, first, last byte) string {
	b := []byte(s)
	for i, c := range b {
		if c >= first && c <= last {
			b[i] = c ^ caseBit
		}
	}
	return string(b)
}

// repeated is s, n times. The number has a limit of its own, also where s is empty.
func repeated(s string, n int64) (string, api.Errno) {
	if n < 0 {
		return "", api.ErrArg
	}
	if n > api.MaxStr || n*int64(len(s)) > api.MaxStr {
		return "", api.ErrLong
	}
	return strings.Repeat(s, int(n)), api.OK
}

func replaced(s, old, by string) (string, api.Errno) {
	if old == "" {
		return "", api.ErrArg
	}
	return strings.ReplaceAll(s, old, by), api.OK
}

// piece is what s has from a place on, n bytes, as far as it goes.
func piece(s string, from, n int64) (string, api.Errno) {
	if from < 0 || n < 0 {
		return "", api.ErrArg
	}
	s = s[min(from, int64(len(s))):]
	return s[:min(n, int64(len(s)))], api.OK
}

// textOf is v as a text.
func textOf(v api.Value) (string, api.Errno) {
	switch v.Kind {
	case api.VStr:
		return v.S, api.OK
	case api.VInt:
		return num.Print(v.I), api.OK
	case api.VBool:
		if isTrue(v) {
			return textOfTrue, api.OK
		}
		return textOfFalse, api.OK
	}
	return "", api.ErrType
}
