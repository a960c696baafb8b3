package fun

import (
	"slices"
	"strings"

	"surety/api"
	"surety/code"
	"surety/num"
	"surety/value"
)

// list is what a function answers that answers a list: its elements. They may be those of an argument.
func list(name string, a []api.Value) ([]api.Value, api.Errno) {
	switch name {
	case "compact":
		return slices.DeleteFunc(a[0].L, isEmpty), api.OK
	case "concat":
		return concat(a), api.OK
	case "distinct":
		return distinct(a[0].L), api.OK
	case "flatten":
		return flatten(a[0].L), api.OK
	case "keys":
		return listOf(a[0].Keys), api.OK
	case "range":
		return numbersFrom(a[0].I, a[1].I)
	case "reverse":
		slices.Reverse(a[0].L)
		return a[0].L, api.OK
	case "slice":
		return slice(a[0].L, a[1].I, a[2].I)
	case "sort":
		return listOf(slices.Sorted(slices.Values(texts(a[0])))), api.OK
	case "split":
		return split(a[1].S, a[0].S)
	case "values":
		return a[0].L, api.OK
	}
	return nil, api.ErrName
}

// isEmpty tells whether v is null, or a text without bytes.
func isEmpty(v api.Value) bool {
	return v.Kind == api.VNull || v.Kind == api.VStr && v.S == ""
}

// concat are all elements of lists.
func concat(lists []api.Value) []api.Value {
	var l []api.Value
	for _, v := range lists {
		l = append(l, v.L...)
	}
	return l
}

// distinct is l without those that stand ahead already: two are alike if their forms are the same.
func distinct(l []api.Value) []api.Value {
	met := map[string]struct{}{}
	var out []api.Value
	for _, v := range l {
		form := string(code.Put(nil, v))
		if _, ok := met[form]; !ok {
			met[form] = struct{}{}
			out = append(out, v)
		}
	}
	return out
}

// flatten is l with the elements of those that are lists in their places.
func flatten(l []api.Value) []api.Value {
	var out []api.Value
	for _, v := range l {
		if v.Kind == api.VList {
			out = append(out, v.L...)
		} else {
			out = append(out, v)
		}
	}
	return out
}

// numbersFrom are the numbers from the one up to, but not, the other.
func numbersFrom(from, to int64) ([]api.Value, api.Errno) {
	if to <= from {
		return nil, api.OK
	}
	n, e := num.Sub(to, from)
	if e != api.OK || n > api.MaxItems {
		return nil, api.ErrLong
	}
	var l []api.Value
	for i := range n {
		l = append(l, value.Int(from+i))
	}
	return l, api.OK
}

func slice(l []api.Value, from, to int64) ([]api.Value, api.Errno) {
	if from < 0 || from > to || to > int64(len(l)) {
		return nil, api.ErrArg
	}
	return l[from:to], api.OK
}

// split are the pieces of s between the places of by.
func split(s, by string) ([]api.Value, api.Errno) {
	if by == "" {
		return nil, api.ErrArg
	}
	return listOf(strings.Split(s, by)), api.OK
}

// listOf are texts as values.
func listOf(texts []string) []api.Value {
	l := make([]api.Value, len(texts))
	for i, s := range texts {
		l[i] = value.Str(s)
	}
	return l
}
