package eval

import (
	"math/rand"
	"slices"
	"testing"

	"surety/api"
	"surety/fun"
	"surety/show"
	"surety/typ"
	"surety/value"
)

// grower grows random trees, most of which are worth something.
type grower struct {
	r *rand.Rand
	// inner are the names that the fors around bind.
	inner []string
	// odd: also trees that no text has.
	odd bool
	n   int
}

// nameKinds has the names of the tests by the kinds of types that their values may be of.
func nameKinds() [6][]string {
	var l [6][]string
	for _, b := range names() {
		k := value.TypeOf(b.V).Kind
		l[k] = append(l[k], b.Name)
	}
	return l
}

var (
	byKind    = nameKinds()
	given     = names()
	functions = fun.Names()
)

func (g *grower) pick(n int) int { return g.r.Intn(n) }

// tree is a random tree, most often of a kind of types.
func (g *grower) tree(kind, depth int) api.Expr {
	if g.pick(25) == 0 {
		kind = g.pick(6)
	}
	if kind == api.Any {
		kind = 1 + g.pick(5)
	}
	if depth == 0 || g.pick(6) == 0 {
		return g.leaf(kind)
	}
	switch g.pick(8) {
	case 0:
		return g.expr(api.ExCond, g.tree(api.Bool, depth-1), g.tree(kind, depth-1), g.tree(kind, depth-1))
	case 1:
		if g.pick(2) == 0 {
			return g.piece(kind, depth-1)
		}
		return g.call(depth - 1)
	}
	return g.ofKind(kind, depth-1)
}

// expr is a tree of parts, at a place that no other one has.
func (g *grower) expr(op int, l ...api.Expr) api.Expr {
	g.n++
	return api.Expr{Op: op, L: l, Pos: api.Pos{At: g.n, Line: g.n, Col: g.n}}
}

func (g *grower) lit(v api.Value) api.Expr {
	e := g.expr(api.ExLit)
	e.V = v
	return e
}

func (g *grower) named(op int, s string, l ...api.Expr) api.Expr {
	e := g.expr(op, l...)
	e.S = s
	return e
}

func (g *grower) leaf(kind int) api.Expr {
	switch n := g.pick(10); {
	case n < 3 && len(g.inner) > 0:
		return g.named(api.ExName, g.inner[g.pick(len(g.inner))])
	case n == 3:
		return g.named(api.ExName, []string{"u", "mu", "zz", "z"}[g.pick(4)])
	case n < 8 && len(byKind[kind]) > 0:
		return g.named(api.ExName, byKind[kind][g.pick(len(byKind[kind]))])
	}
	switch kind {
	case api.Bool:
		return g.lit(value.Bool(g.pick(2) == 0))
	case api.Int:
		return g.lit(value.Int(int64(g.pick(4))))
	case api.Str:
		return g.lit(value.Str([]string{"a", "b", "ab", "k"}[g.pick(4)]))
	case api.List:
		return g.expr(api.ExList)
	case api.Map:
		return g.expr(api.ExMap)
	}
	return g.lit(null)
}

// piece is a tree that takes an element.
func (g *grower) piece(kind, depth int) api.Expr {
	key := []string{"a", "k", "b"}[g.pick(3)]
	switch g.pick(4) {
	case 0:
		return g.named(api.ExAttr, key, g.tree(api.Map, depth))
	case 1:
		return g.expr(api.ExIndex, g.tree(api.Map, depth), g.lit(value.Str(key)))
	case 2:
		return g.expr(api.ExIndex, g.expr(api.ExList, g.tree(kind, depth), g.tree(kind, depth)), g.tree(api.Int, depth))
	}
	return g.expr(api.ExIndex, g.tree(api.List, depth), g.lit(value.Int(int64(g.pick(2)))))
}

func (g *grower) call(depth int) api.Expr {
	name := functions[g.pick(len(functions))]
	var l []api.Expr
	for range 1 + g.pick(2) {
		l = append(l, g.tree(g.pick(6), depth))
	}
	switch g.pick(4) {
	case 0:
		name, l = "length", []api.Expr{g.tree(api.List, depth)}
	case 1:
		name, l = "concat", []api.Expr{g.tree(api.List, depth), g.tree(api.List, depth)}
	case 2:
		name, l = "merge", []api.Expr{g.tree(api.Map, depth), g.tree(api.Map, depth)}
	}
	return g.named(api.ExCall, name, l...)
}

func (g *grower) ofKind(kind, depth int) api.Expr {
	one := func(kind int) api.Expr { return g.tree(kind, depth) }
	switch kind {
	case api.Bool:
		switch k := 1 + g.pick(5); g.pick(4) {
		case 0:
			return g.expr(api.ExNot, one(api.Bool))
		case 1:
			return g.expr(api.ExAnd+g.pick(2), one(api.Bool), one(api.Bool))
		case 2:
			return g.expr(api.ExEq+g.pick(2), one(k), one(k))
		}
		k := api.Int + g.pick(2)
		return g.expr(api.ExLt+g.pick(4), one(k), one(k))
	case api.Int:
		if g.pick(5) == 0 {
			return g.expr(api.ExNeg, one(api.Int))
		}
		return g.expr(api.ExMul+g.pick(5), one(api.Int), one(api.Int))
	case api.Str:
		return g.text(depth)
	case api.List:
		if g.pick(2) == 0 {
			return g.loop(api.ExForList, depth)
		}
		k := g.pick(6)
		return g.expr(api.ExList, slices.Collect(func(yield func(api.Expr) bool) {
			for range g.pick(4) {
				if !yield(one(k)) {
					return
				}
			}
		})...)
	}
	if g.pick(2) == 0 {
		return g.loop(api.ExForMap, depth)
	}
	var l []api.Expr
	for range g.pick(4) {
		l = append(l, g.key(depth), one(g.pick(6)))
	}
	return g.expr(api.ExMap, l...)
}

// key is a map's key.
func (g *grower) key(depth int) api.Expr {
	switch n := g.pick(8); {
	case g.odd && n < 4:
		return g.tree(api.Str, depth)
	case n == 4:
		return g.text(depth)
	}
	return g.lit(value.Str([]string{"a", "b", "c", "k", "ab"}[g.pick(5)]))
}

// text is a string with expressions; in one that a text has, these are neither strings nor maps.
func (g *grower) text(depth int) api.Expr {
	var l []api.Expr
	for i := range 1 + g.pick(3) {
		if i%2 == 1 {
			l = append(l, g.lit(value.Str("a")))
			continue
		}
		part := g.tree(api.Bool+g.pick(3), depth)
		if !g.odd && hasText(part) {
			part = g.named(api.ExName, []string{"n", "s", "u", "mn", "t", "mus"}[g.pick(6)])
		}
		l = append(l, part)
	}
	return g.expr(api.ExText, l...)
}

// hasText tells whether there is in e what no expression in a string may have.
func hasText(e api.Expr) bool {
	return e.Op == api.ExText || e.Op == api.ExMap || e.Op == api.ExForMap || e.Op == api.ExLit && e.V.Kind == api.VStr || slices.ContainsFunc(e.L, hasText)
}

func (g *grower) loop(op, depth int) api.Expr {
	bind := []string{"x", "y", "v", "n"}
	e := g.expr(op, g.tree(api.List+g.pick(2), depth))
	e.S = bind[g.pick(4)]
	if g.pick(2) == 0 {
		e.S2 = bind[g.pick(4)]
	}
	outer := g.inner
	g.inner = append(slices.Clip(g.inner), e.S)
	if e.S2 != "" {
		g.inner = append(g.inner, e.S2)
	}
	if op == api.ExForMap {
		key := g.tree(api.Str, depth)
		if g.pick(2) == 0 {
			key = g.expr(api.ExText, g.named(api.ExName, g.inner[len(g.inner)-1]))
		}
		e.L = append(e.L, key)
	}
	e.L = append(e.L, g.tree(g.pick(6), depth))
	if g.pick(2) == 0 {
		e.L = append(e.L, g.tree(api.Bool, depth))
	}
	g.inner = outer
	return e
}

// grown are n random trees.
func grown(seed int64, n int, odd bool, f func(r *rand.Rand, e api.Expr)) {
	r := rand.New(rand.NewSource(seed))
	for range n {
		g := &grower{r: r, odd: odd}
		f(r, g.tree(r.Intn(6), 1+r.Intn(5)))
	}
}

// P14.1: random trees, held against the oracle: values, marks, and what is wrong first.
func TestRandom(t *testing.T) {
	worth, ops := 0, map[int]int{}
	for seed, odd := range []bool{false, true} {
		grown(int64(seed), 60000, odd, func(_ *rand.Rand, e api.Expr) {
			want, d, _ := ask(e, given, 0)
			if v, got := Eval(e, given); !value.Same(v, want) || got != d {
				t.Fatalf("%v = %s, %v; want %s, %v", e, brief(v), got, brief(want), d)
			}
			if !odd && show.Check(e) != api.OK {
				t.Fatal("no text has", e)
			}
			if d.Code == api.OK {
				worth++
				ops[e.Op]++
			}
			wantKnown, wantHolds, wantDiag := want.Kind == api.VBool, want.Kind == api.VBool && want.I == 1, d
			if d.Code == api.OK && !isBool(want) {
				wantDiag = api.Diag{Code: api.ErrType, Pos: e.Pos}
			}
			if known, holds, got := Truth(e, given); known != wantKnown || holds != wantHolds || got != wantDiag {
				t.Fatalf("Truth(%v) = %t, %t, %v", e, known, holds, got)
			}
		})
	}
	if worth < 40000 || len(ops) != api.ExText {
		t.Error("too few are worth something:", worth, ops)
	}
}

// changedNames are the names with f of each value in each one, from the innermost on.
func changedNames(l []api.Bind, f func(v api.Value) api.Value) []api.Bind {
	var each func(v api.Value) api.Value
	each = func(v api.Value) api.Value {
		v = value.Copy(v)
		for i, x := range v.L {
			v.L[i] = each(x)
		}
		return f(v)
	}
	var out []api.Bind
	for _, b := range l {
		out = append(out, api.Bind{Name: b.Name, V: each(b.V)})
	}
	return out
}

// P14.3: without marks the value is the same without its marks.
func TestRandomBare(t *testing.T) {
	bare := changedNames(given, value.Bare)
	n := 0
	grown(2, 40000, true, func(_ *rand.Rand, e api.Expr) {
		v, d := Eval(e, given)
		w, f := Eval(e, bare)
		if f != d || !value.Same(w, value.Bare(v)) {
			t.Fatalf("%v = %s, %v; without marks %s, %v", e, brief(v), d, brief(w), f)
		}
		if value.Secret(v) {
			n++
		}
	})
	if n < 3000 {
		t.Error("too few are marked:", n)
	}
}

// some is a random value.
func some(r *rand.Rand) api.Value {
	return read([]string{`null`, `true`, `false`, `0`, `1`, `7`, `"ab"`, `"k"`, `[]`, `[1]`, `[4, 5]`, `["a"]`, `{}`, `{a = 1}`, `{a = "x", k = 2}`, `u("any")`, `u("bool")`, `u("int")`, `u("list(int)")`}[r.Intn(19)])
}

// agree tells whether two values are the same but for what is marked in both.
func agree(a, b api.Value) bool {
	if a.Secret || b.Secret {
		return a.Secret && b.Secret
	}
	return a.Kind == b.Kind && a.I == b.I && a.S == b.S && a.T == b.T && slices.Equal(a.Keys, b.Keys) && slices.EqualFunc(a.L, b.L, agree)
}

// P14.3: what isn't marked doesn't hang on what is marked.
func TestRandomSecrets(t *testing.T) {
	n, unlike := 0, 0
	grown(3, 30000, true, func(r *rand.Rand, e api.Expr) {
		v, d := Eval(e, given)
		other := changedNames(given, func(v api.Value) api.Value {
			if v.Secret {
				if r.Intn(3) == 0 {
					return value.Mark(some(r))
				}
				if v.Kind == api.VInt || v.Kind == api.VBool {
					v.I = 1 - v.I&1
				}
			}
			return v
		})
		w, f := Eval(e, other)
		if d.Code != api.OK || f.Code != api.OK {
			return
		}
		if !agree(v, w) {
			t.Fatalf("%v = %s; with other secrets %s", e, brief(v), brief(w))
		}
		n++
		if !value.Same(v, w) {
			unlike++
		}
	})
	if n < 10000 || unlike < 500 {
		t.Error("too few:", n, unlike)
	}
}

// exact is something that refines something unknown of a type: neither null nor empty, whose types are wider than those of what they refine.
func exact(r *rand.Rand, t api.Type) api.Value {
	k := t
	if k.Kind == api.Any {
		k = typ.All()[1+r.Intn(len(typ.All())-1)]
	}
	of := api.Type{Kind: k.Of}
	switch k.Kind {
	case api.Bool:
		return value.Bool(r.Intn(2) == 0)
	case api.Int:
		return value.Int(int64(r.Intn(4)))
	case api.Str:
		return value.Str([]string{"a", "ab", "k"}[r.Intn(3)])
	case api.List:
		return value.List(exact(r, of), exact(r, of))
	}
	return api.Value{Kind: api.VMap, Keys: []string{"a", "k"}, L: []api.Value{exact(r, of), exact(r, of)}}
}

// hasCond tells whether there is a condition in e.
func hasCond(e api.Expr) bool { return e.Op == api.ExCond || slices.ContainsFunc(e.L, hasCond) }

// P14.3: more exact values of names have a more exact value.
func TestRandomExact(t *testing.T) {
	n, closer := 0, 0
	grown(4, 30000, true, func(r *rand.Rand, e api.Expr) {
		v, d := Eval(e, given)
		// Where it stays unknown which part of a condition counts, their type may become wider: so either all becomes known, or there is no condition.
		all := hasCond(e) || r.Intn(2) == 0
		more := changedNames(given, func(v api.Value) api.Value {
			if v.Kind == api.VUnknown && (all || r.Intn(2) == 0) {
				x := exact(r, v.T)
				x.Secret = v.Secret
				return x
			}
			return v
		})
		w, f := Eval(e, more)
		if d.Code != api.OK || f.Code != api.OK {
			return
		}
		if !value.Refines(w, v) || value.Known(v) && !value.Like(w, v) {
			t.Fatalf("%v = %s; of more exact values %s", e, brief(v), brief(w))
		}
		n++
		if !value.Known(v) && value.Known(w) {
			closer++
		}
	})
	if n < 10000 || closer < 1000 {
		t.Error("too few:", n, closer)
	}
}
