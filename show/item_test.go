package show

import (
	"fmt"
	"math/rand"
	"strings"
	"testing"

	"surety/api"
	"surety/conf"
	"surety/expr"
	"surety/value"
)

func attr(s string, e api.Expr) api.Item { return api.Item{Name: s, E: e} }

func block(s string, l ...api.Item) api.Item { return api.Item{Block: true, Name: s, Items: l} }

func labelled(s string, labels ...string) api.Item {
	return api.Item{Block: true, Name: s, Labels: labels}
}

// manyAttrs are attributes of unlike names.
func manyAttrs(n int) []api.Item {
	var l []api.Item
	for i := range n {
		l = append(l, attr(fmt.Sprint("a", i), number(1)))
	}
	return l
}

// nested are blocks in one another.
func nested(n int, l ...api.Item) []api.Item {
	for range n {
		l = []api.Item{block("b", l...)}
	}
	return l
}

// lines holds that these are l's lines, and that they are read as l.
func lines(t *testing.T, l []api.Item, rows ...string) {
	t.Helper()
	want := strings.Join(append(rows, ""), "\n")
	s, e := Items(l)
	if s != want || e != api.OK {
		t.Errorf("Items: %.300q, %d; want %.300q", s, e, want)
	}
	if read, d := conf.Read(want); d != (api.Diag{}) || !conf.Same(read, l) {
		t.Errorf("%.300q is read as other items: %v", want, d)
	}
}

// noItems holds that l may not be printed: not alone, and not as a block's.
func noItems(t *testing.T, what string, l []api.Item) {
	t.Helper()
	for i, x := range [][]api.Item{l, {block("a", l...)}, {attr("z", a), block("a", block("c"), block("c", l...), block("d"))}} {
		if s, e := Items(x); s != "" || e != api.ErrArg {
			t.Errorf("%s (%d): Items: %.80q, %d", what, i, s, e)
		}
	}
}

// P10.2: attributes and blocks as lines.
func TestItems(t *testing.T) {
	lines(t, nil)
	lines(t, []api.Item{})
	lines(t, []api.Item{attr("a", number(1))}, "a = 1")
	lines(t, []api.Item{attr("b", number(1)), attr("a", tree(api.ExAdd, a, b))}, "b = 1", "a = a + b")
	lines(t, []api.Item{attr("for", tree(api.ExCond, a, b, c)), attr("null", list()), attr("_", str("\n"))}, "for = a ? b : c", "null = []", `_ = "\n"`)
	lines(t, []api.Item{block("b")}, "b {", "}")
	lines(t, []api.Item{block("b", attr("a", a))}, "b {", "  a = a", "}")
	lines(t, []api.Item{block("b"), block("b"), attr("b", a), block("b")}, "b {", "}", "b {", "}", "b = a", "b {", "}")
	lines(t, []api.Item{attr("a", a), block("b", attr("a", a), block("c", attr("a", a), block("in"), attr("b", b)), attr("b", b)), attr("b", b)},
		"a = a", "b {", "  a = a", "  c {", "    a = a", "    in {", "    }", "    b = b", "  }", "  b = b", "}", "b = b")
	lines(t, []api.Item{labelled("b", "x")}, `b "x" {`, "}")
	lines(t, []api.Item{labelled("b", "x", "x", "", "y z")}, `b "x" "x" "" "y z" {`, "}")
	lines(t, []api.Item{labelled("b", "\"\\\n\t${a}{}#\xff")}, `b "\"\\\n\t\${a}{}#`+"\xff\" {", "}")
	x := labelled("b", "x", "y")
	x.Items = []api.Item{labelled("c", "z"), attr("k", pairs(str("k"), text(str("x"), a)))}
	lines(t, []api.Item{x, x}, `b "x" "y" {`, `  c "z" {`, "  }", `  k = {k = "x${a}"}`, "}", `b "x" "y" {`, `  c "z" {`, "  }", `  k = {k = "x${a}"}`, "}")
	lines(t, []api.Item{{Name: "a", E: api.Expr{Op: api.ExName, S: "a", Pos: api.Pos{At: 7}}, Labels: []string{}, Items: []api.Item{}, Pos: api.Pos{At: -1}}, {Block: true, Name: "b", Labels: []string{}, Items: []api.Item{}, E: api.Expr{L: []api.Expr{}, V: api.Value{L: []api.Value{}}}}}, "a = a", "b {", "}")
	lines(t, nested(3, attr("a", a)), "b {", "  b {", "    b {", "      a = a", "    }", "  }", "}")
}

// P10.2: what may not be printed.
func TestNoItems(t *testing.T) {
	for _, s := range []string{"", "A", "1", "a ", " a", "a.b", "a\n", "a=", "\"a\"", "é", "abcdefghijklmnopqrstuvwxy"} {
		noItems(t, "an attribute named "+s, []api.Item{attr(s, a)})
		noItems(t, "a block named "+s, []api.Item{block(s)})
	}
	lines(t, []api.Item{attr("abcdefghijklmnopqrstuvwx", a), block("abcdefghijklmnopqrstuvwx")}, "abcdefghijklmnopqrstuvwx = a", "abcdefghijklmnopqrstuvwx {", "}")
	for i, e := range []api.Expr{{}, {Op: 99}, name("in"), number(-1), text(str("x")), tree(api.ExAdd, a), lit(value.List()), {Op: api.ExName, S: "a", S2: "a"}} {
		noItems(t, fmt.Sprint("the expression ", i), []api.Item{attr("b", e)})
		noItems(t, fmt.Sprint("the expression ", i), []api.Item{attr("a", a), attr("b", e), attr("c", c)})
	}
	for i, x := range []api.Item{
		{Name: "b", E: a, Labels: []string{"x"}}, {Name: "b", E: a, Labels: []string{""}}, {Name: "b", E: a, Items: []api.Item{attr("a", a)}}, {Name: "b", E: a, Items: []api.Item{block("b")}}, {Name: "b"},
		{Block: true, Name: "b", E: a}, {Block: true, Name: "b", E: api.Expr{Op: 1}}, {Block: true, Name: "b", E: api.Expr{Op: -1}}, {Block: true, Name: "b", E: api.Expr{S: "a"}}, {Block: true, Name: "b", E: api.Expr{S2: "a"}}, {Block: true, Name: "b", E: api.Expr{L: []api.Expr{{}}}}, {Block: true, Name: "b", E: api.Expr{V: value.Int(0)}}, {Block: true, Name: "b", E: api.Expr{V: api.Value{Secret: true}}},
		labelled("b", "1", "2", "3", "4", "5"), labelled("b", "", "", "", "", ""), {Block: true, Name: "b", Labels: make([]string, 1000)},
	} {
		noItems(t, fmt.Sprint("the item ", i), []api.Item{x})
		noItems(t, fmt.Sprint("the item ", i), []api.Item{attr("a", a), x, block("d")})
	}
	noItems(t, "a name twice", []api.Item{attr("a", a), attr("a", a)})
	noItems(t, "a name twice", []api.Item{attr("a", a), block("b"), attr("c", c), attr("a", b)})
	lines(t, []api.Item{attr("a", a), block("a", attr("a", a)), block("a", attr("a", a)), attr("b", b)}, "a = a", "a {", "  a = a", "}", "a {", "  a = a", "}", "b = b")
}

// P10.2: the limits of a block, and of a text.
func TestLimitsOfItems(t *testing.T) {
	var rows []string
	for i := range api.MaxItems {
		rows = append(rows, fmt.Sprint("a", i, " = 1"))
	}
	lines(t, manyAttrs(api.MaxItems), rows...)
	noItems(t, "an attribute more", manyAttrs(api.MaxItems+1))
	noItems(t, "a block more", append(manyAttrs(api.MaxItems), block("b")))
	blocks := make([]api.Item, 0, api.MaxItems+1)
	rows = nil
	for range api.MaxItems {
		blocks = append(blocks, block("b"))
		rows = append(rows, "b {", "}")
	}
	lines(t, blocks, rows...)
	noItems(t, "a block more", append(blocks, block("b")))
	rows = append([]string{"x {"}, rows...)
	for i := range rows[1:] {
		rows[i+1] = "  " + rows[i+1]
	}
	lines(t, []api.Item{block("x", blocks...)}, append(rows, "}")...)
	for _, n := range []int{0, 1, 4} {
		s := strings.Repeat("\"", api.MaxStr)
		x := labelled("b")
		head := "b"
		for range n {
			x.Labels = append(x.Labels, s)
			head += " \"" + strings.Repeat("\\\"", api.MaxStr) + "\""
		}
		lines(t, []api.Item{x}, head+" {", "}")
		if n > 0 {
			y := labelled("b", append([]string{}, x.Labels...)...)
			y.Labels[n-1] += "x"
			noItems(t, "a long label", []api.Item{y})
		}
	}
	rows = nil
	for i := range api.MaxDepth {
		rows = append(rows, strings.Repeat("  ", i)+"b {")
	}
	rows = append(rows, strings.Repeat("  ", api.MaxDepth)+"a = 1")
	for i := range api.MaxDepth {
		rows = append(rows, strings.Repeat("  ", api.MaxDepth-1-i)+"}")
	}
	lines(t, nested(api.MaxDepth, attr("a", number(1))), rows...)
	noItems(t, "a deep block", nested(api.MaxDepth+1))
	noItems(t, "a deep block", append(nested(2), nested(api.MaxDepth+1)...))
	noItems(t, "a deep block", []api.Item{attr("a", a), block("b", append(nested(2), nested(api.MaxDepth)...)...), block("b")})
	if s, e := Items([]api.Item{block("b", append(nested(2), nested(api.MaxDepth)...)...)}); s != "" || e != api.ErrArg {
		t.Error(s, e)
	}
	if _, e := Items([]api.Item{attr("c", a), block("b", append(nested(2), nested(api.MaxDepth-1)...)...)}); e != api.OK {
		t.Error(e)
	}
}

// longLines holds that l may be printed, but for its length.
func longLines(t *testing.T, what string, l []api.Item) {
	t.Helper()
	if s, e := Items(l); s != "" || e != api.ErrLong {
		t.Errorf("%s: %.80q, %d", what, s, e)
	}
}

// P10.2: how long a text, and a string in it, may be; what may not be printed goes ahead.
func TestLongItems(t *testing.T) {
	rest := api.MaxText - len("a = \n")
	for n := rest - 3; n <= rest; n++ {
		s, e := Items([]api.Item{attr("a", row(n))})
		if len(s) != n+5 || e != api.OK {
			t.Error(n, len(s), e)
		}
		if read, d := conf.Read(s); d != (api.Diag{}) || !expr.Same(read[0].E, row(n)) {
			t.Error(n, d)
		}
	}
	longLines(t, "a byte more", []api.Item{attr("a", row(rest+1))})
	longLines(t, "a name of a byte more", []api.Item{attr("ab", row(rest))})
	longLines(t, "much more", []api.Item{attr("a", row(rest)), attr("b", row(rest))})
	if s, e := Items([]api.Item{attr("a", row(rest-8)), attr("b", str("x"))}); len(s) != api.MaxText || e != api.OK {
		t.Error(len(s), e)
	}
	longLines(t, "an attribute behind", []api.Item{attr("a", row(rest-8)), attr("b", str("xy"))})
	if s, e := Items([]api.Item{attr("a", row(rest-6)), block("b")}); len(s) != api.MaxText || e != api.OK {
		t.Error(len(s), e)
	}
	longLines(t, "a block behind", []api.Item{attr("a", row(rest-5)), block("b")})
	longLines(t, "blanks", []api.Item{block("b", attr("a", row(rest-6-1)))})
	if s, e := Items([]api.Item{block("b", attr("a", row(rest-6-2)))}); len(s) != api.MaxText || e != api.OK {
		t.Error(len(s), e)
	}
	wide := make([]api.Item, 0, 17)
	for range 17 {
		wide = append(wide, labelled("b", strings.Repeat("\n", api.MaxStr)))
	}
	longLines(t, "labels", wide)
	long := text(str(strings.Repeat("x", api.MaxStr)), a)
	longLines(t, "a string", []api.Item{attr("a", long)})
	longLines(t, "a string in a block", []api.Item{attr("a", a), block("b", block("c", attr("a", list(a, long)))), attr("b", b)})
	noItems(t, "too long, and no name", []api.Item{attr("a", long), attr("B", a)})
	noItems(t, "too long, and no tree", []api.Item{attr("a", row(rest+9)), attr("b", api.Expr{})})
	noItems(t, "too long, and twice", []api.Item{attr("a", long), block("b"), attr("a", a)})
	noItems(t, "too long, and deep", append([]api.Item{attr("a", long)}, nested(api.MaxDepth+1)...))
}

// items makes items that may be printed.
func (g *grower) items(depth int) []api.Item {
	var l []api.Item
	for i := range g.r.Intn(4) {
		if depth == 0 || g.r.Intn(2) == 0 {
			l = append(l, attr([]string{"a", "for", "true", "x_1"}[i], g.grow(3, false)))
			continue
		}
		x := block([]string{"a", "b", "if"}[g.r.Intn(3)], g.items(depth-1)...)
		for range g.r.Intn(5) {
			x.Labels = append(x.Labels, g.bytes())
		}
		l = append(l, x)
	}
	return l
}

// P10.2, P10.3: items that were made at random.
func TestGrownItems(t *testing.T) {
	g := grower{rand.New(rand.NewSource(12))}
	met := map[string][]api.Item{}
	for range 3000 {
		l := g.items(g.r.Intn(4))
		s, e := Items(l)
		read, d := conf.Read(s)
		if e != api.OK || d != (api.Diag{}) || !conf.Same(read, l) {
			t.Fatalf("%q: %d, %v", s, e, d)
		}
		if other, twice := met[s]; twice && !conf.Same(l, other) {
			t.Fatalf("%q is the text of two lists", s)
		}
		met[s] = l
		loose := strings.ReplaceAll(s, "\n", "\t# x\n\n")
		again, d := conf.Read(loose)
		if same, _ := Items(again); d != (api.Diag{}) || same != s {
			t.Fatalf("%q is printed as %q", loose, same)
		}
	}
}

// R1: items of any shape.
func TestAnyItems(t *testing.T) {
	noItems(t, "deep blocks", nested(1<<16))
	x := attr("a", a)
	for range 1 << 16 {
		x = api.Item{Name: "a", E: a, Items: []api.Item{x}}
	}
	noItems(t, "deep items of attributes", []api.Item{x})
	e := a
	for range 1 << 16 {
		e = tree(api.ExNot, e)
	}
	noItems(t, "a deep expression", []api.Item{attr("a", e)})
	noItems(t, "an expression of a block", []api.Item{{Block: true, Name: "b", E: e}})
	noItems(t, "nothing at all", []api.Item{{}})
	noItems(t, "nothing but a block", []api.Item{{Block: true}})
	noItems(t, "a great many", make([]api.Item, 1<<16))
	noItems(t, "a great name", []api.Item{attr(strings.Repeat("a", 1<<20), a)})
	noItems(t, "a great label", []api.Item{labelled("a", strings.Repeat("a", 1<<20))})
}
