package fun

import (
	"cmp"
	"slices"

	"surety/api"
	"surety/num"
)

// number is what a function answers that answers a number.
func number(name string, a []api.Value) (int64, api.Errno) {
	switch name {
	case "abs":
		return abs(a[0].I)
	case "index":
		return index(a[0].L, a[1])
	case "length":
		return length(a[0])
	case "max":
		return greatest(a)
	case "min":
		return least(a)
	case "number":
		return numberOf(a[0])
	case "sign":
		return int64(cmp.Compare(a[0].I, 0)), api.OK
	case "sum":
		return sum(a[0].L)
	}
	return 0, api.ErrName
}

func abs(n int64) (int64, api.Errno) {
	if n < 0 {
		return num.Neg(n)
	}
	return n, api.OK
}

// index is the first place of an element like x.
func index(l []api.Value, x api.Value) (int64, api.Errno) {
	i := placeOf(l, x)
	if i < 0 {
		return 0, api.ErrNone
	}
	return int64(i), api.OK
}

// length is how many bytes, or elements, there are in v.
func length(v api.Value) (int64, api.Errno) {
	switch v.Kind {
	case api.VStr:
		return int64(len(v.S)), api.OK
	case api.VList, api.VMap:
		return int64(len(v.L)), api.OK
	}
	return 0, api.ErrType
}

func byNumber(a, b api.Value) int { return cmp.Compare(a.I, b.I) }

func greatest(l []api.Value) (int64, api.Errno) {
	if len(l) == 0 {
		return 0, api.ErrArg
	}
	return slices.MaxFunc(l, byNumber).I, api.OK
}

func least(l []api.Value) (int64, api.Errno) {
	if len(l) == 0 {
		return 0, api.ErrArg
	}
	return slices.MinFunc(l, byNumber).I, api.OK
}

// numberOf is v as a number.
func numberOf(v api.Value) (int64, api.Errno) {
	switch v.Kind {
	case api.VBool, api.VInt:
		return v.I, api.OK
	case api.VStr:
		return num.Parse(v.S)
	}
	return 0, api.ErrType
}

// sum goes from the left on: it is too great where one on the way is, also if the whole wouldn't be.
func sum(l []api.Value) (int64, api.Errno) {
	total := int64(0)
	for _, v := range l {
		n, e := num.Add(total, v.I)
		if e != api.OK {
			return 0, e
		}
		total = n
	}
	return total, api.OK
}
