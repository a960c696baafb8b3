package fun

import (
	"slices"

	"surety/api"
	"surety/num"
	"surety/value"
)

// one is what a function answers that answers one value of several, of any type.
func one(name string, a []api.Value) (api.Value, api.Errno) {
	switch name {
	case "element":
		return element(a[0], a[1].I)
	case "first":
		return first(a)
	case "lookup":
		return lookup(a[0], a[1].S, a[2])
	case "one":
		return only(a[0].L)
	}
	return api.Value{}, api.ErrName
}

// element is the one at the place n, where behind the last one the first one comes again.
func element(v api.Value, n int64) (api.Value, api.Errno) {
	if n < 0 {
		return api.Value{}, api.ErrArg
	}
	if len(v.L) == 0 {
		return api.Value{}, api.ErrNone
	}
	place, _ := num.Mod(n, int64(len(v.L)))
	return value.At(v, place)
}

func first(l []api.Value) (api.Value, api.Errno) {
	i := slices.IndexFunc(l, func(v api.Value) bool { return v.Kind != api.VNull })
	if i < 0 {
		return api.Value{}, api.ErrNone
	}
	return l[i], api.OK
}

// lookup is the element at a key, or the other one.
func lookup(m api.Value, key string, other api.Value) (api.Value, api.Errno) {
	v, e := value.Get(m, key)
	if e != api.OK {
		return other, api.OK
	}
	return v, api.OK
}

// only is the one element, or null of none.
func only(l []api.Value) (api.Value, api.Errno) {
	switch len(l) {
	case 0:
		return api.Value{}, api.OK
	case 1:
		return l[0], api.OK
	}
	return api.Value{}, api.ErrArg
}
