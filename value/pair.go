package value

import (
	"cmp"
	"slices"

	"surety/api"
	"surety/typ"
)

// Same tells whether both are the same, with all their marks.
func Same(a, b api.Value) bool {
	return a.Secret == b.Secret && ownFieldsSame(a, b) && slices.EqualFunc(a.L, b.L, Same)
}

// Like tells whether both are the same but for their marks.
func Like(a, b api.Value) bool {
	return ownFieldsSame(a, b) && slices.EqualFunc(a.L, b.L, Like)
}

// ownFieldsSame holds all fields against each other, but the elements and the mark.
func ownFieldsSame(a, b api.Value) bool {
	return a.Kind == b.Kind && a.I == b.I && a.S == b.S && a.T == b.T && slices.Equal(a.Keys, b.Keys)
}

// Refines tells whether a refines b.
func Refines(a, b api.Value) bool {
	if b.Kind == api.VUnknown {
		return Fits(a, b.T)
	}
	if a.Kind != b.Kind {
		return false
	}
	aKeys, aList := held(a)
	bKeys, bList := held(b)
	switch a.Kind {
	case api.VNull, api.VBool, api.VInt, api.VStr:
		return order(a, b) == 0
	case api.VMap:
		if !slices.Equal(aKeys, bKeys) {
			return false
		}
		fallthrough
	case api.VList:
		return slices.EqualFunc(aList, bList, Refines)
	}
	return false
}

// Less tells whether a is ahead of b.
func Less(a, b api.Value) bool { return order(a, b) < 0 }

// order is below 0 if a is ahead of b, above 0 if b is ahead of a: elements are gone through once, where two calls of Less a level would double with each level.
func order(a, b api.Value) int {
	if a.Kind != b.Kind {
		return cmp.Compare(a.Kind, b.Kind)
	}
	switch a.Kind {
	case api.VBool, api.VInt:
		return cmp.Compare(a.I, b.I)
	case api.VStr:
		return cmp.Compare(a.S, b.S)
	case api.VList, api.VMap:
		return orderOfElements(a, b)
	case api.VUnknown:
		return cmp.Compare(typ.Code(a.T), typ.Code(b.T))
	}
	return 0
}

// orderOfElements is the order of two lists, or of two maps.
func orderOfElements(a, b api.Value) int {
	aKeys, aList := held(a)
	bKeys, bList := held(b)
	for i := range min(len(aList), len(bList)) {
		// A list's elements have no keys.
		if a.Kind == api.VMap && aKeys[i] != bKeys[i] {
			return cmp.Compare(aKeys[i], bKeys[i])
		}
		if c := order(aList[i], bList[i]); c != 0 {
			return c
		}
	}
	return cmp.Compare(len(aList), len(bList))
}
