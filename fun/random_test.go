package fun

import (
	"math/rand"
	"slices"
	"strings"
	"testing"

	"surety/api"
	"surety/value"
)

// short is a text of few letters, so that texts stand in one another.
func short(r *rand.Rand, n int) string {
	b := make([]byte, r.Intn(n+1))
	for i := range b {
		b[i] = "ab,"[r.Intn(3)]
	}
	return string(b)
}

// cut are the pieces of s between the places of by, found place by place from the left on.
func cut(s, by string) []string {
	l := []string{""}
	for i := 0; i < len(s); {
		if len(s)-i >= len(by) && s[i:i+len(by)] == by {
			l = append(l, "")
			i += len(by)
			continue
		}
		l[len(l)-1] += s[i : i+1]
		i++
	}
	return l
}

func strs(l ...string) api.Value {
	var out []api.Value
	for _, s := range l {
		out = append(out, value.Str(s))
	}
	return value.List(out...)
}

// P13.2: texts in one another, of random ones, held against a way of its own.
func TestRandomTexts(t *testing.T) {
	r := rand.New(rand.NewSource(1))
	for range 5000 {
		s, by, with := short(r, 9), short(r, 3), short(r, 3)
		at := -1
		for i := range len(s) - len(by) + 1 {
			if s[i:i+len(by)] == by {
				at = i
				break
			}
		}
		two := []api.Value{value.Str(s), value.Str(by)}
		answers(t, "has", two, value.Bool(at >= 0), api.OK)
		answers(t, "starts", two, value.Bool(at == 0), api.OK)
		answers(t, "ends", two, value.Bool(len(by) <= len(s) && s[len(s)-len(by):] == by), api.OK)
		if by != "" {
			pieces := cut(s, by)
			answers(t, "split", []api.Value{value.Str(by), value.Str(s)}, strs(pieces...), api.OK)
			joined := ""
			for i, p := range pieces {
				if i > 0 {
					joined += with
				}
				joined += p
			}
			answers(t, "replace", append(two, value.Str(with)), value.Str(joined), api.OK)
			answers(t, "join", []api.Value{value.Str(with), strs(pieces...)}, value.Str(joined), api.OK)
		}
		from, n := r.Intn(14)-2, r.Intn(14)-2
		want, e := "", api.ErrArg
		if from >= 0 && n >= 0 {
			e = api.OK
			for i := from; i < from+n && i < len(s); i++ {
				want += s[i : i+1]
			}
		}
		v := value.Str(want)
		if e != api.OK {
			v = null
		}
		answers(t, "substr", []api.Value{value.Str(s), value.Int(int64(from)), value.Int(int64(n))}, v, e)
		answers(t, "trim", []api.Value{value.Str(strings.NewReplacer("a", " ", "b", "\n").Replace(s))}, value.Str(strings.NewReplacer("a", " ", "b", "\n").Replace(strings.Trim(s, "ab"))), api.OK)
	}
}

// some is a random value that may be, known and without marks.
func some(r *rand.Rand, depth int) api.Value {
	switch n := r.Intn(8); {
	case n == 0:
		return null
	case n == 1:
		return value.Bool(r.Intn(2) == 0)
	case n < 4:
		return value.Int(int64(r.Intn(3)))
	case n < 6 || depth == 0:
		return value.Str(short(r, 1))
	case n == 6:
		return someMap(r, depth)
	}
	return someList(r, depth)
}

func someList(r *rand.Rand, depth int) api.Value {
	var l []api.Value
	for range r.Intn(5) {
		l = append(l, some(r, depth-1))
	}
	return value.List(l...)
}

func someMap(r *rand.Rand, depth int) api.Value {
	m := api.Value{Kind: api.VMap}
	for _, k := range []string{"", ",", "a", "b"} {
		if r.Intn(2) == 0 {
			m.Keys, m.L = append(m.Keys, k), append(m.L, some(r, depth-1))
		}
	}
	return m
}

// at is the element at a key, or nil.
func at(m api.Value, key string) *api.Value {
	if i := slices.Index(m.Keys, key); i >= 0 {
		return &m.L[i]
	}
	return nil
}

// P13.2: lists and maps, of random ones, held against the table's words.
func TestRandomLists(t *testing.T) {
	r := rand.New(rand.NewSource(2))
	list := value.List
	for range 5000 {
		x, y, v := someList(r, 2), someList(r, 2), some(r, 2)
		n := len(x.L)
		first := -1
		var turned, unlike, level, full []api.Value
		for i, a := range x.L {
			if value.Same(a, v) && first < 0 {
				first = i
			}
			turned = append([]api.Value{a}, turned...)
			if !slices.ContainsFunc(x.L[:i], func(b api.Value) bool { return value.Same(a, b) }) {
				unlike = append(unlike, a)
			}
			if a.Kind == api.VList {
				level = append(level, a.L...)
			} else {
				level = append(level, a)
			}
			if !value.Same(a, null) && !value.Same(a, value.Str("")) {
				full = append(full, a)
			}
		}
		answers(t, "has", []api.Value{x, v}, value.Bool(first >= 0), api.OK)
		if first >= 0 {
			answers(t, "index", []api.Value{x, v}, value.Int(int64(first)), api.OK)
		} else {
			answers(t, "index", []api.Value{x, v}, null, api.ErrNone)
		}
		answers(t, "reverse", []api.Value{x}, list(turned...), api.OK)
		answers(t, "distinct", []api.Value{x}, list(unlike...), api.OK)
		answers(t, "flatten", []api.Value{x}, list(level...), api.OK)
		answers(t, "compact", []api.Value{x}, list(full...), api.OK)
		answers(t, "concat", []api.Value{x, y}, list(append(slices.Clone(x.L), y.L...)...), api.OK)
		answers(t, "length", []api.Value{x}, value.Int(int64(n)), api.OK)
		from, to := r.Intn(8)-1, r.Intn(8)-1
		args := []api.Value{x, value.Int(int64(from)), value.Int(int64(to))}
		if 0 <= from && from <= to && to <= n {
			answers(t, "slice", args, list(x.L[from:to]...), api.OK)
		} else {
			answers(t, "slice", args, null, api.ErrArg)
		}
		if n > 0 && from >= 0 {
			answers(t, "element", args[:2], x.L[from%n], api.OK)
		}
	}
}

// P13.2: maps, of random ones, held against the table's words.
func TestRandomMaps(t *testing.T) {
	r := rand.New(rand.NewSource(3))
	for range 5000 {
		a, b, c := someMap(r, 2), someMap(r, 2), someMap(r, 2)
		var all, own, rest api.Value
		all.Kind, own.Kind, rest.Kind = api.VMap, api.VMap, api.VMap
		for _, k := range []string{"", ",", "a", "b"} {
			x, y, z := at(a, k), at(b, k), at(c, k)
			last := z
			if last == nil {
				last = y
			}
			if last == nil {
				last = x
			}
			if last != nil {
				all.Keys, all.L = append(all.Keys, k), append(all.L, *last)
			}
			if x != nil && y != nil {
				own.Keys, own.L = append(own.Keys, k), append(own.L, *x)
			}
			if x != nil && y == nil {
				rest.Keys, rest.L = append(rest.Keys, k), append(rest.L, *x)
			}
			want := value.Int(9)
			if x != nil {
				want = *x
			}
			answers(t, "lookup", []api.Value{a, value.Str(k), value.Int(9)}, want, api.OK)
			answers(t, "has", []api.Value{a, value.Str(k)}, value.Bool(x != nil), api.OK)
		}
		names := strs(b.Keys...)
		r.Shuffle(len(names.L), func(i, j int) { names.L[i], names.L[j] = names.L[j], names.L[i] })
		answers(t, "merge", []api.Value{a, b, c}, all, api.OK)
		answers(t, "pick", []api.Value{a, names}, own, api.OK)
		answers(t, "omit", []api.Value{a, names}, rest, api.OK)
		answers(t, "keys", []api.Value{a}, strs(a.Keys...), api.OK)
		answers(t, "values", []api.Value{a}, value.List(a.L...), api.OK)
		answers(t, "zip", []api.Value{strs(a.Keys...), value.List(a.L...)}, a, api.OK)
	}
}
