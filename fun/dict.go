package fun

import (
	"surety/api"
	"surety/value"
)

// dict is what a function answers that answers a map.
func dict(name string, a []api.Value) (api.Value, api.Errno) {
	switch name {
	case "merge":
		return merge(a)
	case "omit":
		return kept(a[0], texts(a[1]), false)
	case "pick":
		return kept(a[0], texts(a[1]), true)
	case "zip":
		return value.Make(texts(a[0]), a[1].L)
	}
	return api.Value{}, api.ErrName
}

// merge is the map of all keys of maps, each with its last element.
func merge(dicts []api.Value) (api.Value, api.Errno) {
	places := map[string]int{}
	var keys []string
	var l []api.Value
	for _, m := range dicts {
		for i, k := range m.Keys {
			p, ok := places[k]
			if !ok {
				p = len(l)
				places[k] = p
				keys = append(keys, k)
				l = append(l, api.Value{})
			}
			l[p] = m.L[i]
		}
	}
	return value.Make(keys, l)
}

// kept is m with just those of its keys that are among these names, or just those that aren't.
func kept(m api.Value, names []string, among bool) (api.Value, api.Errno) {
	met := map[string]struct{}{}
	for _, n := range names {
		met[n] = struct{}{}
	}
	var keys []string
	var l []api.Value
	for i, k := range m.Keys {
		if _, ok := met[k]; ok == among {
			keys = append(keys, k)
			l = append(l, m.L[i])
		}
	}
	return value.Make(keys, l)
}
