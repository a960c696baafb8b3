package schema

import (
	"fmt"
	"math/rand"
	"slices"
	"strings"
	"testing"

	"surety/api"
	"surety/value"
)

// completes holds what Complete answers: want, or the error and what it is about.
func completes(t *testing.T, k string, given, want api.Value, what string, e api.Errno) {
	t.Helper()
	if e != api.OK {
		want = null
	}
	v, w, f := Complete(k, given)
	if !value.Same(v, want) || w != what || f != e {
		t.Errorf("Complete(%.20q, %q) = %q, %.40q, %d; want %q, %.40q, %d", k, brief(given), brief(v), w, f, brief(want), what, e)
	}
}

// P11.2: what is completed, written out.
func TestComplete(t *testing.T) {
	s, n, secret := value.Str("a"), value.Int(5), value.Mark(value.Str("a"))
	m, hidden := value.Mark, value.Mark(null)
	disk := []string{"id", "kind", "label", "serial", "size"}
	node := []string{"addr", "disk", "id", "image", "ports", "secret", "tags"}
	note := []string{"id", "meta", "text"}
	rule := []string{"allow", "from", "id", "to"}
	ports, tags := value.List(n, m(n)), obj("k", secret)
	for _, x := range []struct {
		k           string
		given, want api.Value
	}{
		{"disk", obj("size", n), dict(disk, null, null, null, null, n)},
		{"disk", m(obj("size", n)), m(dict(disk, null, null, null, null, m(n)))},
		{"disk", obj("size", m(n)), dict(disk, null, null, null, null, m(n))},
		{"disk", obj("kind", null, "label", hidden, "size", unknown(api.Int, 0)), dict(disk, null, null, hidden, null, unknown(api.Int, 0))},
		{"disk", obj("label", s, "kind", secret, "size", n), dict(disk, null, secret, s, null, n)},
		{"disk", m(obj("label", s, "kind", null, "size", n)), m(dict(disk, null, hidden, m(s), null, m(n)))},
		{"node", obj("image", s), dict(node, null, null, null, s, null, hidden, null)},
		{"node", m(obj("image", s)), m(dict(node, null, null, null, m(s), null, hidden, null))},
		{"node", obj("image", s, "secret", s), dict(node, null, null, null, s, null, secret, null)},
		{"node", obj("image", s, "secret", secret), dict(node, null, null, null, s, null, secret, null)},
		{"node", obj("image", s, "secret", null), dict(node, null, null, null, s, null, hidden, null)},
		{"node", obj("image", s, "secret", unknown(api.Str, 0)), dict(node, null, null, null, s, null, m(unknown(api.Str, 0)), null)},
		{"node", obj("disk", s, "image", secret, "ports", ports, "tags", tags), dict(node, null, s, null, secret, ports, hidden, tags)},
		{"node", m(obj("image", s, "ports", ports)), m(dict(node, null, null, null, m(s), m(ports), hidden, null))},
		{"node", obj("image", s, "ports", unknown(api.List, api.Int), "tags", unknown(api.Map, api.Str)), dict(node, null, null, null, s, unknown(api.List, api.Int), hidden, unknown(api.Map, api.Str))},
		{"note", obj(), dict(note, null, null, null)},
		{"note", m(obj()), m(dict(note, null, null, null))},
		{"note", obj("meta", obj("a", n, "b", value.List(s, n))), dict(note, null, obj("a", n, "b", value.List(s, n)), null)},
		{"note", obj("meta", obj(), "text", secret), dict(note, null, obj(), secret)},
		{"rule", obj("from", s), dict(rule, null, s, null, null)},
		{"rule", obj("allow", value.List(), "from", s, "to", s), dict(rule, value.List(), s, null, s)},
		{"rule", obj("allow", value.List(null, unknown(api.Str, 0)), "from", unknown(api.Str, 0)), dict(rule, value.List(null, unknown(api.Str, 0)), unknown(api.Str, 0), null, null)},
	} {
		completes(t, x.k, x.given, x.want, "", api.OK)
	}
}

// P11.2: what is wrong, written out, and what of it is told first.
func TestCompleteErrors(t *testing.T) {
	s, n := value.Str("a"), value.Int(5)
	long := strings.Repeat("x", api.MaxStr)
	for _, x := range []struct {
		k     string
		given api.Value
		what  string
		e     api.Errno
	}{
		{"disk", obj(), "size", api.ErrNeed},
		{"disk", value.Mark(obj()), "size", api.ErrNeed},
		{"disk", obj("size", null), "size", api.ErrNeed},
		{"disk", obj("size", value.Mark(null)), "size", api.ErrNeed},
		{"disk", obj("label", s), "size", api.ErrNeed},
		{"disk", obj("size", s), "size", api.ErrType},
		{"disk", obj("size", value.Bool(true)), "size", api.ErrType},
		{"disk", obj("size", unknown(api.Any, 0)), "size", api.ErrType},
		{"disk", obj("size", value.Mark(s)), "size", api.ErrType},
		{"disk", obj("size", n, "kind", n), "kind", api.ErrType},
		{"disk", obj("size", n, "id", s), "id", api.ErrName},
		{"disk", obj("size", n, "id", null), "id", api.ErrName},
		{"disk", obj("size", n, "serial", n), "serial", api.ErrName},
		{"disk", obj("size", n, "serial", s), "serial", api.ErrName},
		{"disk", obj("size", n, "image", s), "image", api.ErrName},
		{"disk", obj("size", n, "", s), "", api.ErrName},
		{"disk", obj("size", n, "Size", n), "Size", api.ErrName},
		{"disk", obj("size", n, "size\x00", n), "size\x00", api.ErrName},
		{"disk", obj("size", n, "\xff", n), "\xff", api.ErrName},
		{"disk", obj("size", n, long, n), long, api.ErrName},
		{"node", obj("image", s, "addr", s), "addr", api.ErrName},
		{"node", obj("image", s, "size", n), "size", api.ErrName},
		{"node", obj("image", s, "ports", value.List(s)), "ports", api.ErrType},
		{"node", obj("image", s, "tags", obj("a", n)), "tags", api.ErrType},
		{"node", obj("image", s, "secret", n), "secret", api.ErrType},
		{"node", obj("secret", s), "image", api.ErrNeed},
		{"note", obj("meta", value.List()), "meta", api.ErrType},
		{"note", obj("id", s), "id", api.ErrName},
		{"rule", obj("allow", value.List(s)), "from", api.ErrNeed},
		{"rule", obj("from", s, "id", s), "id", api.ErrName},
		// Key by key, by both of a key's faults.
		{"disk", obj("id", s, "kind", n), "id", api.ErrName},
		{"disk", obj("kind", n, "zone", s), "kind", api.ErrType},
		{"disk", obj("kind", s, "zone", s, "label", n), "label", api.ErrType},
		{"disk", obj("label", s, "size", s, "zone", s), "size", api.ErrType},
		{"disk", obj("a", n, "zone", s), "a", api.ErrName},
		{"disk", obj("kind", n, "label", n, "size", s), "kind", api.ErrType},
		// Keys ahead of what is needed.
		{"disk", obj("zone", s), "zone", api.ErrName},
		{"disk", obj("kind", n), "kind", api.ErrType},
		{"disk", obj("size", null, "zone", s), "zone", api.ErrName},
		{"node", obj("image", null, "tags", s), "tags", api.ErrType},
		// Keys ahead of what is too much.
		{"note", obj("meta", heavy(509), "zone", null), "zone", api.ErrName},
		{"note", obj("meta", heavy(510), "text", n), "text", api.ErrType},
	} {
		completes(t, x.k, x.given, null, x.what, x.e)
	}
}

// P11.2: no type comes ahead of what is given, and that ahead of its keys.
func TestCompleteOfNoMap(t *testing.T) {
	given := append(bad(), dict([]string{"size", "kind"}, value.Int(1), null), dict([]string{"size"}, value.Int(1), null), dict([]string{"size", "zone"}, value.Int(1)))
	for _, v := range elements() {
		if v.Kind != api.VMap {
			given = append(given, v)
		}
	}
	// Maps that may not be, in which a key is wrong too.
	zone := obj("zone", null)
	zone.I = 1
	given = append(given, zone, obj("zone", value.Str(strings.Repeat("x", api.MaxStr+1))), obj("size", value.Int(1), strings.Repeat("x", api.MaxStr+1), null))
	for _, v := range given {
		for _, k := range kinds {
			completes(t, k, v, null, "", api.ErrType)
		}
	}
	for _, k := range none() {
		for _, v := range append(given, obj(), obj("size", value.Int(1)), obj("zone", null)) {
			completes(t, k, v, null, k, api.ErrName)
		}
	}
}

// P11.2: what is given may be, and what is completed is too much with the nulls.
func TestCompleteTooMuch(t *testing.T) {
	for _, x := range []struct {
		weight int
		e      api.Errno
	}{{508, api.OK}, {509, api.OK}, {510, api.ErrType}, {511, api.ErrType}} {
		m := heavy(x.weight)
		given := obj("meta", m)
		if value.Check(given) != api.OK || value.Weight(given) != x.weight+1 {
			t.Fatal(x)
		}
		want := dict([]string{"id", "meta", "text"}, null, m, null)
		completes(t, "note", given, want, "", x.e)
		// A text that is given weighs what its null would.
		if x.weight < 511 {
			completes(t, "note", obj("meta", m, "text", null), want, "", x.e)
		}
	}
	// Nothing else can be too much: the greatest of the others.
	var ports []api.Value
	tags := dict(nil)
	for i := range api.MaxItems {
		ports = append(ports, value.Int(int64(i)))
		tags.Keys = append(tags.Keys, fmt.Sprintf("%03d", i))
		tags.L = append(tags.L, value.Str(strings.Repeat("x", api.MaxStr)))
	}
	if v, _, e := Complete("node", obj("image", value.Str("a"), "ports", value.List(ports...), "tags", tags)); e != api.OK || Object("node", v) != api.OK {
		t.Error(e)
	}
	deep := obj("meta", nested(api.MaxDepth-2, null))
	deep.L[0] = obj("a", nested(api.MaxDepth-3, null))
	if v, _, e := Complete("note", deep); e != api.OK || value.Depth(v) != api.MaxDepth {
		t.Error(e)
	}
}

// told is what the chapter says of Complete of a map that may be, word by word.
func told(k string, given api.Value) (v api.Value, what string, e api.Errno) {
	l := written(k)
	for i, key := range given.Keys {
		j := slices.IndexFunc(l, func(a api.Attr) bool { return a.Name == key })
		if j < 0 || l[j].Computed {
			return null, key, api.ErrName
		}
		if !value.Fits(given.L[i], l[j].T) {
			return null, key, api.ErrType
		}
	}
	v = dict(nil)
	v.Secret = given.Secret
	for _, a := range l {
		x := null
		if i := slices.Index(given.Keys, a.Name); i >= 0 {
			x = value.Copy(given.L[i])
			x.Secret = x.Secret || given.Secret
		}
		if a.Need && x.Kind == api.VNull && e == api.OK {
			what, e = a.Name, api.ErrNeed
		}
		x.Secret = x.Secret || a.Own
		v.Keys, v.L = append(v.Keys, a.Name), append(v.L, x)
	}
	return v, what, e
}

// P11.2, P11.1: maps of some of the attributes, and of others, held against the chapter's words; what is completed is an object.
func TestCompleteAny(t *testing.T) {
	r := rand.New(rand.NewSource(11))
	pool := elements()
	count := map[api.Errno]int{}
	for range 40000 {
		k := kinds[r.Intn(len(kinds))]
		var pairs []any
		for i, a := range written(k) {
			x := of(a.T, i)
			switch r.Intn(20) {
			case 0:
				x = pool[r.Intn(len(pool))]
			case 1, 2:
				x = value.Mark(x)
			case 3:
				x = null
			}
			if r.Intn(3) > 0 && (!a.Computed || r.Intn(30) == 0) {
				pairs = append(pairs, a.Name, x)
			}
		}
		if r.Intn(20) == 0 {
			pairs = append(pairs, "j", null)
		}
		given := obj(pairs...)
		given.Secret = r.Intn(4) == 0
		want, what, e := told(k, given)
		completes(t, k, given, want, what, e)
		count[e]++
		v, _, e := Complete(k, given)
		if e == api.OK && (Object(k, v) != api.OK || Final(k, v) == api.OK || v.Secret != given.Secret) {
			t.Fatalf("%s: %v is completed to no object: %v", k, given, v)
		}
	}
	for _, e := range []api.Errno{api.OK, api.ErrName, api.ErrType, api.ErrNeed} {
		if count[e] < 1000 {
			t.Errorf("only %d maps of error %d", count[e], e)
		}
	}
}

// R4: what is completed is new memory, and what is given stays.
func TestCompleteNewMemory(t *testing.T) {
	given := obj("image", value.Str("a"), "ports", value.List(value.Int(1)), "secret", value.Str("s"), "tags", obj("k", value.Str("v")))
	given.Keys = append(make([]string, 0, 20), given.Keys...)
	given.L = append(make([]api.Value, 0, 20), given.L...)
	was := value.Copy(given)
	v, _, e := Complete("node", given)
	if e != api.OK {
		t.Fatal(e)
	}
	want := value.Copy(v)
	if !value.Same(given, was) || !value.Same(dict(given.Keys[:20], given.L[:20]...), dict(append(was.Keys, make([]string, 16)...), append(was.L, make([]api.Value, 16)...)...)) {
		t.Error("what is given was changed")
	}
	given.L[1].L[0].I = 9
	given.L[3].Keys[0] = "z"
	given.L[3].L[0].S = "z"
	clear(given.L)
	clear(given.Keys)
	if !value.Same(v, want) {
		t.Error("what is completed changes with what was given")
	}
	clear(v.Keys[:cap(v.Keys)])
	if w, _, _ := Complete("node", was); !value.Same(w, want) {
		t.Error("what is completed changes with an answer ahead of it")
	}
}
