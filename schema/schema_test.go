package schema

import (
	"fmt"
	"math"
	"slices"
	"strings"
	"testing"

	"surety/api"
	"surety/typ"
	"surety/value"
)

// chapter is the table of types as the chapter has it.
const chapter = `disk: id str computed; kind str anew; label str; serial int computed; size int needed
node: addr str computed; disk str; id str computed; image str needed anew; ports list(int); secret str own; tags map(str)
note: id str computed; meta map; text str
rule: allow list(str); from str needed; id str computed; to str`

// written are the attributes of a type, read of the chapter's table.
func written(t string) []api.Attr {
	var l []api.Attr
	for line := range strings.SplitSeq(chapter, "\n") {
		rest, ok := strings.CutPrefix(line, t+": ")
		if !ok {
			continue
		}
		for part := range strings.SplitSeq(rest, "; ") {
			words := strings.Fields(part)
			ty, e := typ.Parse(words[1])
			if e != api.OK {
				panic(part)
			}
			has := func(w string) bool { return slices.Contains(words[2:], w) }
			l = append(l, api.Attr{Name: words[0], T: ty, Need: has("needed"), Computed: has("computed"), Anew: has("anew"), Own: has("own")})
		}
	}
	return l
}

var kinds = []string{"disk", "node", "note", "rule"}

// none are texts that are no type of resources.
func none() []string {
	return []string{"", "a", "dis", "disks", "Disk", "DISK", " disk", "disk ", "disk.a", "disk\x00", "\xff", "nod", "not", "nodes", "rules", "id", "str", "variable", strings.Repeat("disk", 5000)}
}

var null = api.Value{}

// dict is a map as it is given, whatever its keys.
func dict(keys []string, l ...api.Value) api.Value {
	return api.Value{Kind: api.VMap, Keys: keys, L: l}
}

// obj is a map of pairs: a key and a value, and so on.
func obj(pairs ...any) api.Value {
	var keys []string
	var l []api.Value
	for i := 0; i < len(pairs); i += 2 {
		keys = append(keys, pairs[i].(string))
		l = append(l, pairs[i+1].(api.Value))
	}
	v, e := value.Make(keys, l)
	if e != api.OK {
		panic(keys)
	}
	return v
}

func unknown(kind, of int) api.Value { return value.Unknown(api.Type{Kind: kind, Of: of}) }

// brief is the beginning of a value's text.
func brief(v api.Value) string {
	s := fmt.Sprint(v)
	return s[:min(len(s), 300)]
}

func nested(n int, v api.Value) api.Value {
	for range n {
		v = api.Value{Kind: api.VList, L: []api.Value{v}}
	}
	return v
}

// of is a known value of a type, that differs with n.
func of(t api.Type, n int) api.Value {
	s := value.Str(fmt.Sprint("s", n))
	switch t {
	case api.Type{Kind: api.Str}:
		return s
	case api.Type{Kind: api.Int}:
		return value.Int(int64(n))
	case api.Type{Kind: api.List, Of: api.Int}:
		return value.List(value.Int(int64(n)))
	case api.Type{Kind: api.List, Of: api.Str}:
		return value.List(s, null)
	case api.Type{Kind: api.Map, Of: api.Str}:
		return obj("k", s)
	case api.Type{Kind: api.Map}:
		return obj("i", value.Int(int64(n)), "l", value.List(s, value.Bool(true)))
	}
	panic(t)
}

// full is an object of a type, final, of which no element is null.
func full(t string, n int) api.Value {
	v := dict(nil)
	for i, a := range written(t) {
		v.Keys = append(v.Keys, a.Name)
		v.L = append(v.L, of(a.T, n+i))
	}
	return v
}

// with is v with another element at a key that it has.
func with(v api.Value, key string, x api.Value) api.Value {
	v = value.Copy(v)
	v.L[slices.Index(v.Keys, key)] = x
	return v
}

// without is v without a key that it has.
func without(v api.Value, key string) api.Value {
	v = value.Copy(v)
	i := slices.Index(v.Keys, key)
	v.Keys, v.L = slices.Delete(v.Keys, i, i+1), slices.Delete(v.L, i, i+1)
	return v
}

// elements are values of each kind and type, that may be.
func elements() []api.Value {
	l := []api.Value{
		null, value.Bool(true), value.Int(0), value.Int(math.MinInt64), value.Str(""), value.Str(strings.Repeat("x", api.MaxStr)),
		value.List(), value.List(null), value.List(value.Int(1)), value.List(value.Int(1), null, unknown(api.Int, 0)), value.List(value.Str("a")), value.List(value.Int(1), value.Str("a")), value.List(value.List()), value.List(unknown(api.Any, 0)), value.List(obj()),
		obj(), obj("", null), obj("a", value.Str("b")), obj("a", value.Int(1)), obj("a", value.Str("b"), "c", unknown(api.Str, 0)), obj("a", value.Bool(true), "b", value.Str("c")), obj("a", value.List(obj("b", null))), obj("a", unknown(api.Any, 0)),
	}
	for _, t := range typ.All() {
		l = append(l, value.Unknown(t))
	}
	for _, v := range slices.Clone(l) {
		l = append(l, value.Mark(v))
	}
	return l
}

// bad are values that may not be.
func bad() []api.Value {
	return []api.Value{
		{Kind: -1}, {Kind: 99}, {Kind: math.MaxInt}, {Kind: math.MinInt},
		{I: 1}, {S: "a"}, {Kind: api.VBool, I: 2}, {Kind: api.VInt, S: "a"}, {Kind: api.VStr, I: 1}, {Kind: api.VStr, Keys: []string{""}},
		value.Str(strings.Repeat("x", api.MaxStr+1)), unknown(9, 9), unknown(api.Int, api.Int),
		nested(api.MaxDepth, null), nested(1<<16-2, value.Int(1)),
		{Kind: api.VList, L: make([]api.Value, api.MaxItems+1)}, {Kind: api.VList, Keys: []string{"a"}},
		dict([]string{"a"}), dict(nil, null), dict([]string{"b", "a"}, null, null), dict([]string{"a", "a"}, null, null),
		{Kind: api.VMap, I: 1}, value.List(api.Value{I: 1}),
	}
}

// P11.1: the types, in their order, and each time in new memory.
func TestTypes(t *testing.T) {
	l := Types()
	if !slices.Equal(l, kinds) || !slices.IsSorted(l) {
		t.Fatal(l)
	}
	clear(l[:cap(l)])
	if l := Types(); !slices.Equal(l, kinds) {
		t.Error("changed from outside:", l)
	}
}

// P11.1: the attributes of each type, held against the chapter's table.
func TestAttrs(t *testing.T) {
	n := 0
	for _, k := range kinds {
		want := written(k)
		l, e := Attrs(k)
		if e != api.OK || !slices.Equal(l, want) {
			t.Errorf("Attrs(%s) = %v, %d", k, l, e)
		}
		if !slices.IsSortedFunc(l, func(a, b api.Attr) int { return strings.Compare(a.Name, b.Name) }) {
			t.Errorf("Attrs(%s) isn't in order", k)
		}
		n += len(l)
		clear(l[:cap(l)])
		if l, e := Attrs(k); e != api.OK || !slices.Equal(l, want) {
			t.Errorf("Attrs(%s) changed from outside: %v", k, l)
		}
	}
	if n != 19 {
		t.Error(n, "attributes")
	}
	for _, s := range none() {
		if l, e := Attrs(s); len(l) > 0 || e != api.ErrName {
			t.Errorf("Attrs(%.20q) = %v, %d", s, l, e)
		}
	}
}

// P11.1: each attribute of each type is found in that type alone.
func TestFind(t *testing.T) {
	names := append(none(), kinds...)
	for _, k := range kinds {
		for _, a := range written(k) {
			names = append(names, a.Name, a.Name+"s", a.Name[1:], strings.ToUpper(a.Name), k+"."+a.Name)
		}
	}
	for _, k := range append(none(), kinds...) {
		l := written(k)
		for _, n := range names {
			want, e := api.Attr{}, api.ErrName
			if i := slices.IndexFunc(l, func(a api.Attr) bool { return a.Name == n }); i >= 0 {
				want, e = l[i], api.OK
			}
			if a, f := Find(k, n); a != want || f != e {
				t.Errorf("Find(%.20q, %.20q) = %v, %d", k, n, a, f)
			}
		}
	}
}

// objectIs holds what Object and Final tell of v.
func objectIs(t *testing.T, k string, v api.Value, object, final bool) {
	t.Helper()
	told := func(b bool) api.Errno {
		if b {
			return api.OK
		}
		return api.ErrType
	}
	if e := Object(k, v); e != told(object) {
		t.Errorf("Object(%s, %q) = %d", k, brief(v), e)
	}
	if e := Final(k, v); e != told(final) {
		t.Errorf("Final(%s, %q) = %d", k, brief(v), e)
	}
}

// P11.1: objects of each type, with each value in each place.
func TestObjectElements(t *testing.T) {
	for _, k := range kinds {
		v := full(k, 1)
		objectIs(t, k, v, true, true)
		objectIs(t, k, value.Mark(v), true, true)
		for _, a := range written(k) {
			for _, x := range elements() {
				object := value.Fits(x, a.T) && !(a.Need && x.Kind == api.VNull)
				final := object && value.Known(x) && !(a.Computed && x.Kind == api.VNull)
				objectIs(t, k, with(v, a.Name, x), object, final)
			}
			for _, x := range bad() {
				objectIs(t, k, with(v, a.Name, x), false, false)
			}
		}
	}
}

// P11.1: by rows written out, that don't hang on what fits.
func TestObjectWrittenOut(t *testing.T) {
	disk, node, note, rule := full("disk", 1), full("node", 1), full("note", 1), full("rule", 1)
	s, n := value.Str("a"), value.Int(1)
	for _, x := range []struct {
		k             string
		v             api.Value
		object, final bool
	}{
		{"disk", with(disk, "size", null), false, false},
		{"disk", with(disk, "size", value.Mark(null)), false, false},
		{"disk", with(disk, "size", unknown(api.Int, 0)), true, false},
		{"disk", with(disk, "size", unknown(api.Any, 0)), false, false},
		{"disk", with(disk, "size", s), false, false},
		{"disk", with(disk, "size", value.Int(math.MinInt64)), true, true},
		{"disk", with(disk, "kind", null), true, true},
		{"disk", with(disk, "label", value.Mark(s)), true, true},
		{"disk", with(disk, "label", n), false, false},
		{"disk", with(disk, "id", null), true, false},
		{"disk", with(disk, "id", value.Mark(null)), true, false},
		{"disk", with(disk, "serial", null), true, false},
		{"disk", with(disk, "serial", unknown(api.Int, 0)), true, false},
		{"disk", with(disk, "serial", s), false, false},
		{"node", with(node, "addr", null), true, false},
		{"node", with(node, "id", null), true, false},
		{"node", with(node, "image", null), false, false},
		{"node", with(node, "disk", null), true, true},
		{"node", with(node, "secret", null), true, true},
		{"node", with(node, "ports", value.List()), true, true},
		{"node", with(node, "ports", value.List(n, null)), true, true},
		{"node", with(node, "ports", value.List(n, s)), false, false},
		{"node", with(node, "ports", value.List(n, unknown(api.Int, 0))), true, false},
		{"node", with(node, "ports", unknown(api.List, api.Int)), true, false},
		{"node", with(node, "ports", unknown(api.List, 0)), false, false},
		{"node", with(node, "ports", n), false, false},
		{"node", with(node, "tags", obj("a", s, "b", null)), true, true},
		{"node", with(node, "tags", obj("a", n)), false, false},
		{"node", with(node, "tags", value.List(s)), false, false},
		{"note", with(note, "id", null), true, false},
		{"note", with(note, "meta", obj("a", n, "b", s, "c", obj("d", value.List(n, s)))), true, true},
		{"note", with(note, "meta", obj("a", obj("b", value.List(unknown(api.Any, 0))))), true, false},
		{"note", with(note, "meta", unknown(api.Map, api.Bool)), true, false},
		{"note", with(note, "meta", s), false, false},
		{"note", with(note, "text", null), true, true},
		{"rule", with(rule, "allow", value.List(s)), true, true},
		{"rule", with(rule, "allow", value.List(n)), false, false},
		{"rule", with(rule, "from", null), false, false},
		{"rule", with(rule, "id", null), true, false},
		{"rule", with(rule, "to", null), true, true},
		{"rule", rule, true, true},
	} {
		objectIs(t, x.k, x.v, x.object, x.final)
	}
}

// P11.1: objects have just their attributes, in the order of maps, and are maps that may be.
func TestObjectShapes(t *testing.T) {
	for _, k := range kinds {
		v := full(k, 1)
		for _, other := range kinds {
			objectIs(t, other, v, other == k, other == k)
		}
		for _, a := range written(k) {
			objectIs(t, k, without(v, a.Name), false, false)
			// Another name in its place, by which the keys rise as well.
			named := value.Copy(v)
			named.Keys[slices.Index(v.Keys, a.Name)] = a.Name + "\x00"
			if value.Check(named) != api.OK {
				t.Fatal(named.Keys)
			}
			objectIs(t, k, named, false, false)
		}
		for _, more := range []string{"", "A", "color", "zz", v.Keys[0] + "\x00"} {
			x := value.Copy(v)
			i, _ := slices.BinarySearch(x.Keys, more)
			x.Keys, x.L = slices.Insert(x.Keys, i, more), slices.Insert(x.L, i, null)
			objectIs(t, k, x, false, false)
		}
		turned := value.Copy(v)
		slices.Reverse(turned.Keys)
		slices.Reverse(turned.L)
		twice := value.Copy(v)
		twice.Keys[1] = twice.Keys[0]
		twice.L[1] = twice.L[0]
		short := value.Copy(v)
		short.L = short.L[1:]
		long := value.Copy(v)
		long.L = append(long.L, null)
		fewer := value.Copy(v)
		fewer.Keys = fewer.Keys[1:]
		number := value.Copy(v)
		number.I = 1
		text := value.Copy(v)
		text.S = "a"
		typed := value.Copy(v)
		typed.T.Kind = api.Map
		list := value.Copy(v)
		list.Kind = api.VList
		bare := value.List(v.L...)
		for _, x := range append(elements(), turned, twice, short, long, fewer, number, text, typed, list, bare, value.List(v)) {
			objectIs(t, k, x, false, false)
		}
		for _, x := range bad() {
			objectIs(t, k, x, false, false)
		}
	}
}

// heavy is a map that weighs n, and may be as far as that may: it is known, and has an element at least.
func heavy(n int) api.Value {
	v := obj("a", value.List(), "b", value.List(), "c", value.List(), "d", value.List(), "e", value.List())
	n -= 6
	for i := range v.L {
		for ; n > 0 && len(v.L[i].L) < api.MaxItems; n-- {
			v.L[i].L = append(v.L[i].L, value.Int(int64(n)))
		}
	}
	return v
}

// P11.1: an object may be, as a whole: also where each element may be.
func TestObjectTooMuch(t *testing.T) {
	v := full("note", 1)
	// The object and its other two elements weigh three.
	for _, x := range []struct {
		weight int
		ok     bool
	}{{508, true}, {509, true}, {510, false}, {512, false}} {
		m := heavy(x.weight)
		if value.Weight(m) != x.weight || value.Check(m) != api.OK {
			t.Fatal(value.Weight(m))
		}
		objectIs(t, "note", with(v, "meta", m), x.ok, x.ok)
	}
	deep := func(n int) api.Value { return obj("a", nested(n, null)) }
	objectIs(t, "note", with(v, "meta", deep(api.MaxDepth-3)), true, true)
	if value.Check(deep(api.MaxDepth-2)) != api.OK {
		t.Fatal("deep")
	}
	objectIs(t, "note", with(v, "meta", deep(api.MaxDepth-2)), false, false)
}

// P11.1: no type comes ahead of no object.
func TestObjectOfNoType(t *testing.T) {
	for _, k := range none() {
		for _, v := range append(bad(), null, obj(), full("disk", 1), full("note", 1)) {
			if e, f := Object(k, v), Final(k, v); e != api.ErrName || f != api.ErrName {
				t.Errorf("of %.20q: %d, %d", k, e, f)
			}
		}
	}
}

// asked holds that each call ends, and changes neither value.
func asked(t *testing.T, k string, v, w api.Value) {
	t.Helper()
	v1, w1 := value.Copy(v), value.Copy(w)
	Object(k, v)
	Final(k, v)
	Complete(k, v)
	Changed(k, v, w)
	Changed(k, w, v)
	Anew(k, v, w)
	Computed(k, v, w)
	Computed(k, w, v)
	if !value.Same(v, v1) || !value.Same(w, w1) {
		t.Errorf("%.20q: an argument was changed", k)
	}
}

// R1, R4: each call ends of what is odd, and of what is as deep as the bound allows, and changes nothing.
func TestNothingIsChanged(t *testing.T) {
	for _, k := range append(none(), kinds...) {
		for _, v := range elements() {
			for _, w := range []api.Value{full("disk", 3), full("node", 3), null} {
				asked(t, k, v, w)
			}
		}
	}
	deep := nested(1<<16-3, value.Mark(unknown(api.Int, 0)))
	for _, k := range append(none()[:2], kinds...) {
		for _, v := range append(bad(), value.Mark(full("node", 1)), dict([]string{"text", "id", "id"}, deep, null, deep), value.List(deep)) {
			asked(t, k, v, full("node", 3))
		}
		asked(t, k, dict([]string{"id", "id"}, null, deep), dict([]string{"id"}, deep))
	}
}
