package fun

import (
	"slices"
	"strings"

	"surety/api"
	"surety/value"
)

// truth is what a function answers that answers a truth.
func truth(name string, a []api.Value) (bool, api.Errno) {
	switch name {
	case "all":
		return !slices.ContainsFunc(a[0].L, isFalse), api.OK
	case "any":
		return slices.ContainsFunc(a[0].L, isTrue), api.OK
	case "ends":
		return strings.HasSuffix(a[0].S, a[1].S), api.OK
	case "has":
		return has(a[0], a[1])
	case "starts":
		return strings.HasPrefix(a[0].S, a[1].S), api.OK
	case "truth":
		return truthOf(a[0])
	}
	return false, api.ErrName
}

func isTrue(v api.Value) bool { return v.I == 1 }

func isFalse(v api.Value) bool { return v.I == 0 }

// has tells whether x stands in v.
func has(v, x api.Value) (bool, api.Errno) {
	if v.Kind == api.VList {
		return placeOf(v.L, x) >= 0, api.OK
	}
	if x.Kind != api.VStr {
		return false, api.ErrType
	}
	switch v.Kind {
	case api.VStr:
		return strings.Contains(v.S, x.S), api.OK
	case api.VMap:
		_, found := slices.BinarySearch(v.Keys, x.S)
		return found, api.OK
	}
	return false, api.ErrType
}

// placeOf is the first place of an element like x, -1 if there is none.
func placeOf(l []api.Value, x api.Value) int {
	return slices.IndexFunc(l, func(y api.Value) bool { return value.Like(x, y) })
}

// truthOf is v as a truth.
func truthOf(v api.Value) (bool, api.Errno) {
	switch v.Kind {
	case api.VBool, api.VInt:
		if v.I == 0 || v.I == 1 {
			return v.I == 1, api.OK
		}
		return false, api.ErrForm
	case api.VStr:
		if v.S == textOfTrue || v.S == textOfFalse {
			return v.S == textOfTrue, api.OK
		}
		return false, api.ErrForm
	}
	return false, api.ErrType
}
