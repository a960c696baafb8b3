package schema

import (
	"math/rand"
	"slices"
	"testing"

	"surety/api"
	"surety/value"
)

// differ holds what Changed and Anew answer, both ways round.
func differ(t *testing.T, k string, a, b api.Value, anew bool, names ...string) {
	t.Helper()
	for range 2 {
		if l := Changed(k, a, b); !slices.Equal(l, names) {
			t.Errorf("Changed(%.20q, %q, %q) = %v; want %v", k, brief(a), brief(b), l, names)
		}
		if Anew(k, a, b) != anew {
			t.Errorf("Anew(%.20q, %q, %q) = %v", k, brief(a), brief(b), !anew)
		}
		a, b = b, a
	}
}

// P11.3: each attribute of each type alone, and all of them.
func TestChangedOfEach(t *testing.T) {
	for _, k := range kinds {
		v := full(k, 1)
		var all []string
		anyAnew := false
		for _, a := range written(k) {
			var names []string
			if !a.Computed {
				names = []string{a.Name}
				all = append(all, a.Name)
				anyAnew = anyAnew || a.Anew
			}
			anew := a.Anew && !a.Computed
			differ(t, k, v, with(v, a.Name, of(a.T, 100)), anew, names...)
			differ(t, k, v, with(v, a.Name, null), anew, names...)
			differ(t, k, v, with(v, a.Name, value.Unknown(a.T)), anew, names...)
			differ(t, k, v, with(v, a.Name, value.Bool(true)), anew, names...)
			differ(t, k, v, without(v, a.Name), anew, names...)
			differ(t, k, v, with(v, a.Name, value.Mark(of(a.T, 1+slices.Index(v.Keys, a.Name)))), false)
			// An element that isn't there is null.
			differ(t, k, without(v, a.Name), with(v, a.Name, null), false)
			differ(t, k, without(v, a.Name), with(v, a.Name, value.Mark(null)), false)
		}
		differ(t, k, v, value.Mark(v), false)
		differ(t, k, v, full(k, 100), anyAnew, all...)
		differ(t, k, value.Mark(v), full(k, 100), anyAnew, all...)
		for _, x := range append(bad(), null, value.Mark(null), value.Int(1), value.List(v), obj(), obj("zone", value.Int(1)), unknown(api.Map, 0)) {
			differ(t, k, v, x, anyAnew, all...)
			differ(t, k, x, x, false)
			differ(t, k, null, x, false)
		}
	}
}

// P11.3: rows written out.
func TestChanged(t *testing.T) {
	s, u, n := value.Str("a"), value.Str("b"), value.Int(1)
	list := func(l ...api.Value) api.Value { return value.List(l...) }
	odd := api.Value{I: 1}
	for _, x := range []struct {
		k     string
		a, b  api.Value
		anew  bool
		names []string
	}{
		{"disk", obj("size", n), obj("size", value.Int(2)), false, []string{"size"}},
		{"disk", obj("size", n), obj("size", n), false, nil},
		{"disk", obj("kind", s), obj("kind", u), true, []string{"kind"}},
		{"disk", obj("kind", s, "size", n), obj("kind", u), true, []string{"kind", "size"}},
		{"disk", obj("kind", s, "label", s, "size", n), obj(), true, []string{"kind", "label", "size"}},
		{"disk", obj("id", s, "serial", n), obj("id", u), false, nil},
		{"disk", obj("image", s), obj("image", u), false, nil},
		{"disk", obj("zone", s), obj(), false, nil},
		{"node", obj("image", s), obj("image", u), true, []string{"image"}},
		{"node", obj("kind", s), obj("kind", u), false, nil},
		{"node", obj("addr", s, "id", s, "secret", s), obj("addr", u, "id", u, "secret", u), false, []string{"secret"}},
		{"node", obj("secret", s), obj("secret", value.Mark(s)), false, nil},
		{"node", obj("disk", unknown(api.Str, 0)), obj("disk", unknown(api.Str, 0)), false, nil},
		{"node", obj("disk", unknown(api.Str, 0)), obj("disk", unknown(api.Any, 0)), false, []string{"disk"}},
		{"node", obj("disk", unknown(api.Str, 0)), obj("disk", s), false, []string{"disk"}},
		{"node", obj("ports", list(n, value.Int(2))), obj("ports", list(value.Int(2), n)), false, []string{"ports"}},
		{"node", obj("ports", list(n)), obj("ports", list(value.Mark(n))), false, nil},
		{"node", obj("ports", list()), obj("ports", null), false, []string{"ports"}},
		{"node", obj("tags", obj("a", s)), obj("tags", obj("b", s)), false, []string{"tags"}},
		{"note", obj("meta", obj("a", obj("b", n))), obj("meta", obj("a", obj("b", value.Mark(n)))), false, nil},
		{"note", obj("meta", obj("a", obj("b", n))), obj("meta", obj("a", obj("b", s))), false, []string{"meta"}},
		{"note", obj("text", s), obj(), false, []string{"text"}},
		{"rule", obj("allow", list(s), "from", s, "id", s, "to", s), obj("allow", list(u), "from", u, "id", u, "to", u), false, []string{"allow", "from", "to"}},
		// Maps of any keys: those count of which there are both, and of two the first.
		{"disk", dict([]string{"size", "kind"}, n, s), obj("kind", s, "size", n), false, nil},
		{"disk", dict([]string{"size", "kind"}, n), obj("size", n), false, nil},
		{"disk", dict([]string{"size", "kind"}, n), obj("kind", s, "size", n), true, []string{"kind"}},
		{"disk", dict([]string{"size"}, n, s), obj("size", n), false, nil},
		{"disk", dict([]string{"size", "size"}, n, s), obj("size", n), false, nil},
		{"disk", dict([]string{"size", "size"}, s, n), obj("size", n), false, []string{"size"}},
		// Like goes by all fields.
		{"disk", obj("label", odd), obj(), false, []string{"label"}},
		{"disk", obj("label", odd), obj("label", odd), false, nil},
		{"disk", api.Value{Kind: api.VList, Keys: []string{"size"}, L: []api.Value{n}}, obj(), false, nil},
	} {
		differ(t, x.k, x.a, x.b, x.anew, x.names...)
	}
}

// P11.3: of no type: nothing, no, v.
func TestChangedOfNoType(t *testing.T) {
	for _, k := range none() {
		for _, v := range []api.Value{null, obj(), full("disk", 1), full("node", 1), dict([]string{"id", "id"}, null)} {
			differ(t, k, v, full("disk", 9), false)
			differ(t, k, v, null, false)
			for _, from := range []api.Value{null, full("disk", 9), value.Mark(full("note", 9))} {
				if x := Computed(k, v, from); !value.Same(x, v) {
					t.Errorf("Computed(%.20q, %v, %v) = %v", k, v, from, x)
				}
			}
		}
	}
}

// P11.3: of each pair of which each element is one of a few, held against the chapter's words.
func TestChangedAny(t *testing.T) {
	r := rand.New(rand.NewSource(3))
	for range 20000 {
		k := kinds[r.Intn(len(kinds))]
		l := written(k)
		some := func() api.Value {
			var pairs []any
			for _, a := range l {
				x := []api.Value{of(a.T, 1), of(a.T, 1), of(a.T, 2), null, value.Mark(of(a.T, 1)), value.Mark(null), value.Unknown(a.T)}[r.Intn(7)]
				if r.Intn(5) > 0 {
					pairs = append(pairs, a.Name, x)
				}
			}
			v := obj(pairs...)
			v.Secret = r.Intn(4) == 0
			return v
		}
		a, b := some(), some()
		at := func(v api.Value, name string) api.Value {
			if i := slices.Index(v.Keys, name); i >= 0 {
				return value.Bare(v.L[i])
			}
			return null
		}
		var names []string
		anew := false
		for _, x := range l {
			if !x.Computed && !value.Same(at(a, x.Name), at(b, x.Name)) {
				names = append(names, x.Name)
				anew = anew || x.Anew
			}
		}
		differ(t, k, a, b, anew, names...)
		want := value.Copy(a)
		for _, x := range l {
			i, j := slices.Index(a.Keys, x.Name), slices.Index(b.Keys, x.Name)
			if x.Computed && i >= 0 && j >= 0 {
				want.L[i] = value.Copy(b.L[j])
				want.L[i].Secret = want.L[i].Secret || b.Secret
			}
		}
		if v := Computed(k, a, b); !value.Same(v, want) {
			t.Fatalf("Computed(%s, %v, %v) = %v", k, a, b, v)
		}
	}
}

// P11.3: Computed, written out.
func TestComputed(t *testing.T) {
	s, u, n, m := value.Str("a"), value.Str("b"), value.Int(1), value.Mark
	disk, other := full("disk", 1), full("disk", 50)
	node, another := full("node", 1), full("node", 50)
	for _, x := range []struct {
		k             string
		v, from, want api.Value
	}{
		{"disk", disk, other, with(with(disk, "id", other.L[0]), "serial", other.L[3])},
		{"disk", disk, m(other), with(with(disk, "id", m(other.L[0])), "serial", m(other.L[3]))},
		{"disk", m(disk), other, m(with(with(disk, "id", other.L[0]), "serial", other.L[3]))},
		{"disk", disk, with(other, "id", m(u)), with(with(disk, "id", m(u)), "serial", other.L[3])},
		{"disk", disk, without(other, "id"), with(disk, "serial", other.L[3])},
		{"disk", without(disk, "id"), other, with(without(disk, "id"), "serial", other.L[3])},
		{"disk", disk, with(other, "serial", null), with(with(disk, "id", other.L[0]), "serial", null)},
		{"disk", disk, obj("id", unknown(api.Str, 0)), with(disk, "id", unknown(api.Str, 0))},
		{"disk", disk, obj("id", n), with(disk, "id", n)},
		{"disk", disk, obj("addr", s, "size", n, "zone", s), disk},
		{"disk", disk, obj(), disk},
		{"disk", disk, null, disk},
		{"disk", disk, m(null), disk},
		{"disk", disk, s, disk},
		{"disk", disk, value.List(other), disk},
		{"disk", disk, unknown(api.Map, 0), disk},
		{"disk", obj("zone", s), other, obj("zone", s)},
		{"disk", obj(), other, obj()},
		{"node", node, another, with(with(node, "addr", another.L[0]), "id", another.L[2])},
		{"node", node, other, with(node, "id", other.L[0])},
		{"note", full("note", 1), obj("id", u, "text", u), with(full("note", 1), "id", u)},
		{"rule", full("rule", 1), obj("id", u, "to", u), with(full("rule", 1), "id", u)},
		// Marks of what was there go with it.
		{"note", with(full("note", 1), "id", m(s)), obj("id", u), with(full("note", 1), "id", u)},
		// A v that is no map.
		{"disk", null, other, null},
		{"disk", m(null), other, m(null)},
		{"disk", s, other, s},
		{"disk", value.List(disk), other, value.List(disk)},
		{"disk", unknown(api.Map, 0), other, unknown(api.Map, 0)},
		{"disk", api.Value{Kind: api.VList, Keys: []string{"id"}, L: []api.Value{s}}, other, api.Value{Kind: api.VList, Keys: []string{"id"}, L: []api.Value{s}}},
		{"disk", api.Value{Kind: 99, Keys: []string{"id"}, L: []api.Value{s}}, other, api.Value{Kind: 99, Keys: []string{"id"}, L: []api.Value{s}}},
		// Maps of any keys.
		{"disk", dict([]string{"serial", "id"}, n, s), obj("id", u), dict([]string{"serial", "id"}, n, u)},
		{"disk", dict([]string{"serial", "id"}, n), obj("id", u, "serial", s), dict([]string{"serial", "id"}, s)},
		{"disk", dict([]string{"id"}, n, s, n), obj("id", u), dict([]string{"id"}, u, s, n)},
		{"disk", disk, dict([]string{"serial", "id"}, n), with(disk, "serial", n)},
		{"disk", disk, dict([]string{"id", "id"}, u, n), with(disk, "id", u)},
		{"disk", dict([]string{"id"}), obj("id", u), dict([]string{"id"})},
		{"disk", dict(nil, s), obj("id", u), dict(nil, s)},
	} {
		if v := Computed(x.k, x.v, x.from); !value.Same(v, x.want) {
			t.Errorf("Computed(%s, %v, %v) = %v; want %v", x.k, x.v, x.from, v, x.want)
		}
	}
}

// R4: what Computed answers is new memory, both of v and of from, and within itself.
func TestComputedNewMemory(t *testing.T) {
	list := value.List(value.Int(1), value.List(value.Int(2)))
	v := dict([]string{"id", "id", "text"}, null, null, list)
	from := obj("id", list)
	for _, k := range []string{"note", "a"} {
		x := Computed(k, v, from)
		want := value.Copy(x)
		y := Computed(k, value.Copy(v), value.Copy(from))
		y.L[0] = value.Int(7)
		clear(y.Keys)
		y.L[2].L[1].L[0].I = 7
		if !value.Same(v, dict([]string{"id", "id", "text"}, null, null, list)) || !value.Same(from, obj("id", list)) {
			t.Fatal("an argument was changed")
		}
		if k == "note" {
			x.L[0].L[0].I = 9
			if !value.Same(x.L[1], want.L[1]) || !value.Same(from.L[0], list) {
				t.Error("elements share memory")
			}
			x.L[0].L[0].I = 1
		}
		v2, from2 := value.Copy(v), value.Copy(from)
		x = Computed(k, v2, from2)
		clear(v2.Keys)
		v2.L[2].L[1].L[0].I = 9
		clear(from2.L[0].L)
		if !value.Same(x, want) {
			t.Errorf("%s: what is answered changes with an argument", k)
		}
	}
	if l := Changed("note", v, from); len(l) > 0 {
		clear(l)
	}
	if l := Changed("note", v, from); !slices.Equal(l, []string{"text"}) {
		t.Error(l)
	}
}

// P11.3: a great map of one key, asked of another one, ends soon.
func TestComputedOfMany(t *testing.T) {
	n := 1 << 16
	v := dict(make([]string, n), make([]api.Value, n)...)
	from := dict(make([]string, n), make([]api.Value, n)...)
	for i := range v.Keys {
		v.Keys[i] = "id"
	}
	from.Keys[n-1], from.L[n-1] = "id", value.Int(1)
	for i, x := range Computed("disk", v, from).L {
		if x.I != 1 {
			t.Fatal(i)
		}
	}
}
