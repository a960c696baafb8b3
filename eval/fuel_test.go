package eval

import (
	"math/rand"
	"slices"
	"strings"
	"testing"

	"surety/api"
	"surety/value"
)

// nots is true, or false, behind n signs: n + 1 steps.
func nots(n int) api.Expr {
	e := api.Expr{Op: api.ExLit, V: value.Bool(true)}
	for range n {
		e = api.Expr{Op: api.ExNot, L: []api.Expr{e}}
	}
	return e
}

// used holds how many steps an expression takes: behind others it is worth something as long as these leave as many, and with one less it stops at its last step, which is at a place.
func used(t *testing.T, e api.Expr, names []api.Bind, steps, last int) {
	t.Helper()
	all := func(before int) api.Expr {
		return api.Expr{Op: api.ExEq, L: []api.Expr{nots(before - 2), e}}
	}
	if _, d := Eval(all(api.MaxFuel-steps), names); d != (api.Diag{}) {
		t.Errorf("%s: more than %d steps: %v", brief(e), steps, d)
	}
	_, d := Eval(all(api.MaxFuel-steps+1), names)
	if d.Code != api.ErrLong || d.What != "fuel" || d.Pos.At != last {
		t.Errorf("%s: %v; want the step %d at %d", brief(e), d, steps, last)
	}
}

// P14.1: one step for each expression that is come to, and for nothing else: of each kind.
func TestSteps(t *testing.T) {
	for _, c := range []struct {
		in          string
		steps, last int
	}{
		{`1`, 1, 0},
		{`l`, 1, 0},
		{`d.a`, 2, 0},
		{`dd.x.y[0]`, 5, 7},
		{`l[1]`, 3, 2},
		{`u[1]`, 3, 2},
		{`concat()`, 1, 0},
		{`max(1, 2 + 3)`, 5, 11},
		{`!t`, 2, 1},
		{`-n`, 2, 1},
		{`1 + 2`, 3, 4},
		{`u + 2`, 3, 4},
		{`1 == 2`, 3, 5},
		{`1 < 2 + 3`, 5, 8},
		{`f && t`, 2, 0},
		{`t && f`, 3, 5},
		{`u && f`, 3, 5},
		{`t || f`, 2, 0},
		{`f || t`, 3, 5},
		{`t ? 1 : -2`, 3, 4},
		{`f ? 1 : -2`, 4, 9},
		{`u ? 1 : -2`, 5, 9},
		{`[]`, 1, 0},
		{`[1, 2, -3]`, 5, 8},
		{`{}`, 1, 0},
		{`{a = 1, b = -2}`, 6, 13},
		{`{"a${n}" = 1}`, 5, 11},
		{`"abc"`, 1, 0},
		{`"a${n}b${-n}"`, 6, 10},
		{`[for v in [] : 1]`, 2, 10},
		{`[for v in u : 1]`, 2, 10},
		{`[for v in l : 1]`, 4, 14},
		{`[for v in l : v + 1]`, 8, 18},
		{`[for v in l : 1 if true]`, 6, 14},
		{`[for v in l : 1 if false]`, 4, 19},
		{`[for v in l : 1 if v == 4]`, 9, 24},
		{`[for v in l : 1 if u]`, 6, 14},
		{`[for i, v in l : [for w in l : w]]`, 10, 31},
		{`{for v in l : "${v}" => 1}`, 8, 24},
		{`{for v in l : "${v}" => 1 if v == 5}`, 11, 24},
		{`{for v in l : us => v if f}`, 4, 25},
	} {
		used(t, parse(c.in), names(), c.steps, c.last)
	}
}

// P14.1: the step that is one too many, on whatever way, and at its place.
func TestFuel(t *testing.T) {
	ints := func(n int) api.Value {
		l := make([]api.Value, n)
		for i := range l {
			l[i] = value.Int(int64(i))
		}
		return value.List(l...)
	}
	names := []api.Bind{{Name: "a", V: ints(100)}, {Name: "b", V: ints(65)}, {Name: "c", V: ints(64)}}
	// 3 + 100 * (3 + 65 * 3), 3 + 64 * 3, and the signs.
	in := `-(sum([for x in a : sum([for y in b : x * y])]) + sum([for z in c : z + 1]))`
	if v, d := Eval(parse(in), names); d != (api.Diag{}) || !value.Same(v, value.Int(-(4950*2080+2080))) {
		t.Error(v, d)
	}
	// With each sign more the end comes one step earlier: at the last 1, at the last z, at their sum, and at the 1 ahead of that.
	for n, at := range []int{72, 68, 70, 72} {
		more := strings.Repeat("-", n+1)
		at += len(more)
		wrongly(t, parse(more+in), names, api.Diag{Code: api.ErrLong, Pos: api.Pos{At: at, Line: 1, Col: at + 1}, What: "fuel"})
	}
	// What isn't come to takes none.
	for _, in := range []string{"false && " + in + " == 1", "true ? 1 : --" + in, "[for v in [] : ---" + in + "]", "[for v in [1] : ---" + in + " if false]"} {
		if v, d := Eval(parse(in), names); d != (api.Diag{}) {
			t.Error(in, v, d)
		}
	}
	// What is wrong ahead of that step counts, and what is wrong behind it doesn't.
	wrongly(t, parse("["+in+", zz]"), names, api.Diag{Code: api.ErrLong, Pos: api.Pos{At: 73, Line: 1, Col: 74}, What: "fuel"})
	wrongly(t, parse("[zz, "+in+"]"), names, api.Diag{Code: api.ErrName, Pos: api.Pos{At: 1, Line: 1, Col: 2}, What: "zz"})
}

// P14.1: trees that nest as deep as there are steps, and deeper.
func TestDeep(t *testing.T) {
	for _, n := range []int{api.MaxFuel - 1, api.MaxFuel, 1<<16 - 1} {
		e := api.Expr{Op: api.ExLit, V: value.Int(1)}
		for i := range n {
			e = api.Expr{Op: api.ExNeg, L: []api.Expr{e}, Pos: api.Pos{At: n - i}}
		}
		v, d := Eval(e, nil)
		if n < api.MaxFuel {
			if d != (api.Diag{}) || !value.Same(v, value.Int(-1)) {
				t.Error(n, v, d)
			}
			continue
		}
		want := api.Diag{Code: api.ErrLong, Pos: api.Pos{At: api.MaxFuel + 1}, What: "fuel"}
		if n == api.MaxFuel {
			want.Pos.At = 0
		}
		wrongly(t, e, nil, want)
	}
	one := parse("1")
	for op := api.ExAttr; op <= api.ExText; op++ {
		e := api.Expr{Op: api.ExLit, V: value.Bool(true)}
		for range 1<<16 - 1 {
			e = api.Expr{Op: op, S: "abs", L: []api.Expr{e}}
			switch op {
			case api.ExAttr, api.ExCall, api.ExNot, api.ExNeg, api.ExList, api.ExText:
			case api.ExCond, api.ExForMap:
				e.L = append(e.L, one, one)
			case api.ExMap:
				e.L = []api.Expr{{Op: api.ExLit, V: value.Str("a")}, e.L[0]}
			default:
				e.L = append(e.L, one)
			}
		}
		if v, d := Eval(e, nil); d.Code != api.ErrLong || d.What != "fuel" || !value.Same(v, null) {
			t.Error(op, v, d)
		}
	}
}

// P14.1: random trees, of an evaluation of which so many steps were taken that some come to an end within: held against the oracle.
func TestRandomFuel(t *testing.T) {
	ends := 0
	grown(5, 10000, true, func(r *rand.Rand, e api.Expr) {
		_, _, steps := ask(e, given, 0)
		for _, left := range []int{steps, steps - 1, r.Intn(steps)} {
			want, d, _ := ask(e, given, api.MaxFuel-left)
			w := walk{names: slices.Clone(given), steps: api.MaxFuel - left}
			if v, got := w.worth(e); !value.Same(v, want) || got != d {
				t.Fatalf("%v = %s, %v; want %s, %v", e, brief(v), got, brief(want), d)
			}
			if d.What == "fuel" {
				ends++
			}
		}
	})
	if ends < 10000 {
		t.Error("too few end:", ends)
	}
}
