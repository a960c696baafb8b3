package eval

import (
	"math"
	"math/rand"
	"reflect"
	"slices"
	"strings"
	"testing"

	"surety/api"
	"surety/value"
)

// bad are values that may not be.
func bad() []api.Value {
	nested := value.Int(1)
	for range 1<<16 - 2 {
		nested = api.Value{Kind: api.VList, L: []api.Value{nested}}
	}
	return []api.Value{
		{Kind: -1}, {Kind: 99}, {Kind: math.MinInt}, {I: 1}, {S: "a"}, {Kind: api.VBool, I: 2}, {Kind: api.VInt, S: "a"}, {Kind: api.VStr, I: 1},
		value.Str(strings.Repeat("x", api.MaxStr+1)), value.Unknown(api.Type{Kind: 9}), value.Unknown(api.Type{Kind: api.Int, Of: api.Int}), value.Unknown(api.Type{Kind: -1}),
		nested, value.List(make([]api.Value, api.MaxItems+1)...), {Kind: api.VList, L: make([]api.Value, 1<<20)}, {Kind: api.VMap, Keys: []string{"a"}}, {Kind: api.VMap, L: make([]api.Value, 2)},
		{Kind: api.VMap, Keys: []string{"b", "a"}, L: make([]api.Value, 2)}, {Kind: api.VMap, Keys: []string{"a", "a"}, L: make([]api.Value, 2)}, value.List(api.Value{I: 1}), {Kind: api.VUnknown, T: api.Type{Kind: 7}, Secret: true},
	}
}

// R1, P14.1: values that may not be, of literals and of names, in each place of each kind.
func TestBadValues(t *testing.T) {
	at := api.Pos{At: 7, Line: 8, Col: 9}
	for _, v := range bad() {
		l := append(names(), api.Bind{Name: "bad", V: v})
		for _, e := range []api.Expr{{Op: api.ExLit, V: v, Pos: at}, {Op: api.ExName, S: "bad", Pos: at}} {
			wrongly(t, e, l, api.Diag{Code: api.ErrLong, Pos: at})
			for op := api.ExAttr; op <= api.ExText; op++ {
				for n := range 5 {
					for i := range n {
						x := api.Expr{Op: op, S: "v", L: slices.Repeat([]api.Expr{parse("u")}, n)}
						x.L[i] = e
						w, d := Eval(x, l)
						if !value.Same(w, null) && d != (api.Diag{}) || value.Check(w) != api.OK {
							t.Fatal(op, n, i, brief(w), d)
						}
					}
				}
			}
		}
		// Names that aren't asked for may be anything.
		if w, d := Eval(parse("n"), append([]api.Bind{{Name: "bad", V: v}}, names()...)); d != (api.Diag{}) || w.I != 3 {
			t.Error(brief(w), d)
		}
	}
}

// takes tells whether a kind of trees takes so many parts: of those with signs two, where none is told.
func takes(op, n int) bool {
	if slices.Contains([]int{api.ExLit, api.ExName, api.ExCall, api.ExList, api.ExText}, op) {
		return true
	}
	counts := map[int][]int{api.ExAttr: {1}, api.ExNot: {1}, api.ExNeg: {1}, api.ExCond: {3}, api.ExMap: {0, 2, 4, 6}, api.ExForList: {2, 3}, api.ExForMap: {3, 4}}
	if l, ok := counts[op]; ok {
		return slices.Contains(l, n)
	}
	return n == 2 && op > api.ExLit && op < api.ExText
}

// R1: trees of any kind, of any number of parts: those that are none end at their place, if they are come to.
func TestBadTrees(t *testing.T) {
	ops := []int{math.MinInt, -1, api.ExText + 1, 99, math.MaxInt}
	for op := range api.ExText + 1 {
		ops = append(ops, op)
	}
	at := api.Pos{At: 3, Line: 2, Col: 1}
	for _, op := range ops {
		for n := range 7 {
			for _, part := range []string{"1", "true", `"a"`, "l", "d", "u", "mu", "z", "zz"} {
				e := api.Expr{Op: op, L: slices.Repeat([]api.Expr{parse(part)}, n), Pos: at}
				v, d := Eval(e, names())
				if d != (api.Diag{}) && !value.Same(v, null) || value.Check(v) != api.OK {
					t.Fatal(op, n, part, v, d)
				}
				if takes(op, n) {
					if d.Code == api.ErrArg && op != api.ExCall {
						t.Error(op, n, part, d)
					}
					continue
				}
				wrongly(t, e, names(), api.Diag{Code: api.ErrArg, Pos: at})
				// Where it isn't come to it is no matter.
				if v, d := Eval(api.Expr{Op: api.ExAnd, L: []api.Expr{parse("f"), e}}, names()); d != (api.Diag{}) || !value.Same(v, value.Bool(false)) {
					t.Error(op, n, v, d)
				}
			}
		}
	}
	for _, e := range []api.Expr{{}, {Op: -5, L: []api.Expr{{}}}, {Op: api.ExNot, L: []api.Expr{{}}}} {
		if v, d := Eval(e, nil); d != (api.Diag{Code: api.ErrArg}) || !value.Same(v, null) {
			t.Error(v, d)
		}
		if known, holds, d := Truth(e, nil); known || holds || d != (api.Diag{Code: api.ErrArg}) {
			t.Error(known, holds, d)
		}
	}
}

// R1: trees with more parts than a value, or a text, may have.
func TestWideTrees(t *testing.T) {
	x := value.Str(strings.Repeat("x", api.MaxStr))
	row := func(op, n int, v api.Value) api.Expr {
		return api.Expr{Op: op, S: "concat", L: slices.Repeat([]api.Expr{{Op: api.ExLit, V: v}}, n)}
	}
	for _, c := range []struct {
		e    api.Expr
		code api.Errno
		what string
	}{
		{row(api.ExList, 128, null), api.OK, ""},
		{row(api.ExList, 129, null), api.ErrLong, ""},
		{row(api.ExList, api.MaxFuel-1, x), api.ErrLong, ""},
		{row(api.ExList, api.MaxFuel, x), api.ErrLong, "fuel"},
		{row(api.ExList, 1<<20, x), api.ErrLong, "fuel"},
		{row(api.ExText, 1, x), api.OK, ""},
		{row(api.ExText, 2, x), api.ErrLong, ""},
		{row(api.ExText, api.MaxFuel-1, x), api.ErrLong, ""},
		{row(api.ExText, api.MaxFuel-1, value.Str("")), api.OK, ""},
		{row(api.ExText, 1<<20, value.Str("")), api.ErrLong, "fuel"},
		{row(api.ExCall, api.MaxFuel-1, value.List()), api.OK, ""},
		{row(api.ExCall, api.MaxFuel, value.List()), api.ErrLong, "fuel"},
		{row(api.ExMap, 1<<20, x), api.ErrTwice, x.S},
	} {
		v, d := Eval(c.e, nil)
		if d.Code != c.code || d.What != c.what || d.Code != api.OK && !value.Same(v, null) {
			t.Error(c.e.Op, len(c.e.L), brief(v), d.Code, brief(d.What))
		}
	}
	heavy := value.List(value.List(make([]api.Value, 128)...), value.List(make([]api.Value, 128)...), value.List(make([]api.Value, 128)...), value.List(make([]api.Value, 100)...))
	if v, d := Eval(row(api.ExList, api.MaxFuel-1, heavy), nil); d != (api.Diag{Code: api.ErrLong}) || !value.Same(v, null) {
		t.Error(brief(v), d)
	}
	var pairs api.Expr
	pairs.Op = api.ExMap
	for i := range 129 {
		pairs.L = append(pairs.L, api.Expr{Op: api.ExLit, V: value.Str(strings.Repeat("k", i))}, api.Expr{Op: api.ExLit})
		v, d := Eval(pairs, nil)
		if i < 128 && (d != (api.Diag{}) || len(v.Keys) != i+1) || i == 128 && d != (api.Diag{Code: api.ErrLong}) {
			t.Error(i, brief(v), d)
		}
	}
	// Names as many as one likes.
	many := slices.Repeat([]api.Bind{{Name: "n", V: value.Int(1)}}, 1<<18)
	many[0].Name = "first"
	if v, d := Eval(parse("[for v in [first, n] : v + first]"), many); d != (api.Diag{}) || !value.Same(v, read("[2, 2]")) {
		t.Error(v, d)
	}
}

// roomy is v with room behind each list, that holds what may not be.
func roomy(v api.Value) api.Value {
	l, keys := make([]api.Value, 0, len(v.L)+2), make([]string, 0, len(v.Keys)+2)
	for _, x := range v.L {
		l = append(l, roomy(x))
	}
	keys = append(keys, v.Keys...)
	for i := range 2 {
		l[:cap(l)][len(l)+i] = api.Value{Kind: 77}
		keys[:cap(keys)][len(keys)+i] = "behind"
	}
	v.L, v.Keys = l, keys
	return v
}

// roomyTree is e with room behind each list.
func roomyTree(e api.Expr) api.Expr {
	l := make([]api.Expr, 0, len(e.L)+2)
	for _, x := range e.L {
		l = append(l, roomyTree(x))
	}
	for i := range 2 {
		l[:cap(l)][len(l)+i] = api.Expr{Op: 77}
	}
	e.L, e.V = l, roomy(e.V)
	return e
}

// wholeOf is all that a list holds, the room behind it too.
func wholeOf[T any](l []T) []T { return l[:cap(l)] }

// spoil changes all that a value's lists hold, the room behind their length too.
func spoil(v api.Value) {
	for _, x := range v.L {
		spoil(x)
	}
	for i := range wholeOf(v.L) {
		wholeOf(v.L)[i] = value.Str("spoilt")
	}
	for i := range wholeOf(v.Keys) {
		wholeOf(v.Keys)[i] = "spoilt"
	}
}

// withAll is v with all that stands behind its lists within them.
func withAll(v api.Value) api.Value {
	v.Keys = slices.Clone(wholeOf(v.Keys))
	v.L = slices.Clone(wholeOf(v.L))
	for i := range v.L {
		v.L[i] = withAll(v.L[i])
	}
	return v
}

func withAllTree(e api.Expr) api.Expr {
	e.V, e.L = withAll(e.V), slices.Clone(wholeOf(e.L))
	for i := range e.L {
		e.L[i] = withAllTree(e.L[i])
	}
	return e
}

func withAllNames(l []api.Bind) []api.Bind {
	l = slices.Clone(wholeOf(l))
	for i := range l {
		l[i].V = withAll(l[i].V)
	}
	return l
}

// R4, R6: a call changes nothing that it is handed, and not the room behind it; what it answers is new memory, and the same each time.
func TestMemory(t *testing.T) {
	room := make([]api.Bind, 0, 100)
	for _, b := range names() {
		room = append(room, api.Bind{Name: b.Name, V: roomy(b.V)})
	}
	for i := len(room); i < cap(room); i++ {
		room[:cap(room)][i] = api.Bind{Name: "zz", V: value.Int(int64(i))}
	}
	before := withAllNames(room)
	check := func(e api.Expr) {
		tree := withAllTree(e)
		v, d := Eval(e, room)
		same := value.Copy(v)
		known, holds, td := Truth(e, room)
		spoil(v)
		w, d2 := Eval(e, room)
		known2, holds2, td2 := Truth(e, room)
		if !value.Same(w, same) || d2 != d || known != known2 || holds != holds2 || td != td2 {
			t.Fatalf("%s: %s, %v, and then %s, %v", brief(e), brief(same), d, brief(w), d2)
		}
		if !reflect.DeepEqual(withAllNames(room), before) || !reflect.DeepEqual(withAllTree(e), tree) {
			t.Fatalf("%s: changed what it was handed", brief(e))
		}
		alone(t, e, w)
	}
	for _, s := range []string{"l", "d", "dd", "le", "md", "ml", "[l, l]", "{a = l, b = l}", "[l, [l]]", "[for v in [1, 2] : l]", "[for v in [l, l] : v]", "{for k, v in dd : k => v}", "{for v in [1, 2] : \"${v}\" => l}", "t ? l : 1", "u ? l : l", "mt ? d : 1",
		"concat([l], [l])", "first(l)", "[dd.x, dd.x]", "dd[\"x\"]", "[l][0]", "[first(l), l]", "mf || f", "zz", "[for zz in l : zz]", "[for v in l : [for w in l : [v, w]]]", "merge(d, md)", "d.k", "[ml, md, le]"} {
		check(roomyTree(parse(s)))
	}
	check(roomyTree(api.Expr{Op: api.ExLit, V: read(`[[1], {a = [2]}, m([3])]`)}))
	lit := api.Expr{Op: api.ExLit, V: read(`[[1]]`)}
	check(roomyTree(api.Expr{Op: api.ExList, L: []api.Expr{lit, lit}}))
	grown(6, 3000, true, func(_ *rand.Rand, e api.Expr) { check(roomyTree(e)) })
}

// alone holds that no two lists of an answer share memory.
func alone(t *testing.T, e api.Expr, v api.Value) {
	t.Helper()
	met := map[*api.Value]struct{}{}
	var each func(v api.Value)
	each = func(v api.Value) {
		l := wholeOf(v.L)
		for i := range l {
			if _, ok := met[&l[i]]; ok {
				t.Fatalf("%s: two lists are one", brief(e))
			}
			met[&l[i]] = struct{}{}
		}
		for _, x := range v.L {
			each(x)
		}
	}
	each(v)
}

// R6: what is answered hangs on nothing that was asked ahead.
func TestAgain(t *testing.T) {
	for range 3 {
		worths(t, `
n => 3
[for n in l : n] => [4, 5]
n => 3
{"${us}" = 1} => u("map")
{a = 1} => {a = 1}
`)
		faults(t, `
[for n in l : zz] => name 14 zz
{a = 1, a = 2} => twice 8 a
`)
	}
	l := names()
	Eval(parse("[for n in l : n + zz]"), l)
	l[1].V = value.Int(4)
	if v, d := Eval(parse("n"), l); d != (api.Diag{}) || v.I != 4 {
		t.Error(v, d)
	}
}
