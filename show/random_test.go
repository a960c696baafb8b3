package show

import (
	"math/rand"
	"strings"
	"testing"

	"surety/api"
	"surety/expr"
	"surety/lex"
)

// grower makes trees that may be printed.
type grower struct{ r *rand.Rand }

func (g *grower) name() string { return []string{"a", "b", "forx", "_1"}[g.r.Intn(4)] }

func (g *grower) some(least, most, depth int, inString bool) []api.Expr {
	var l []api.Expr
	for range least + g.r.Intn(most-least+1) {
		l = append(l, g.grow(depth-1, inString))
	}
	return l
}

func (g *grower) leaf(inString bool) api.Expr {
	switch n := g.r.Intn(6); {
	case n == 0:
		return number(int64(g.r.Intn(30)))
	case n == 1 && !inString:
		return str(g.bytes())
	case n == 2:
		return lit(api.Value{Kind: api.VBool, I: int64(g.r.Intn(2))})
	case n == 3:
		return lit(api.Value{})
	}
	return name(g.name())
}

func (g *grower) bytes() string {
	var b strings.Builder
	for range g.r.Intn(4) {
		b.WriteString([]string{"x", "\"", "\\", "\n", "\t", "$", "{", "}", "n", "a", " ", "\xff"}[g.r.Intn(12)])
	}
	return b.String()
}

func (g *grower) text(depth int) api.Expr {
	var l []api.Expr
	for len(l) == 0 || g.r.Intn(2) == 0 {
		if s := g.bytes(); s != "" && g.r.Intn(2) == 0 {
			l = append(l, str(s))
		}
		l = append(l, g.grow(min(depth-1, 3), true))
	}
	if s := g.bytes(); s != "" {
		l = append(l, str(s))
	}
	return text(l...)
}

func (g *grower) pairs(depth int) api.Expr {
	var l []api.Expr
	for range g.r.Intn(3) {
		key := str([]string{"k", "for", "in", "a b", "", "\"", "true", "A"}[g.r.Intn(8)])
		if depth > 2 && g.r.Intn(3) == 0 {
			key = g.text(depth - 1)
		}
		l = append(l, key, g.grow(depth-1, false))
	}
	return pairs(l...)
}

// grow makes a tree of at most a depth.
func (g *grower) grow(depth int, inString bool) api.Expr {
	if depth <= 1 || g.r.Intn(6) == 0 {
		return g.leaf(inString)
	}
	if !inString && g.r.Intn(6) == 0 {
		switch g.r.Intn(3) {
		case 0:
			return g.text(depth)
		case 1:
			return g.pairs(depth)
		}
		return loop(api.ExForMap, []string{"", "k"}[g.r.Intn(2)], g.name(), g.some(3, 4, depth, false)...)
	}
	switch op := api.ExAttr + g.r.Intn(api.ExForList-api.ExAttr+1); op {
	case api.ExAttr:
		return named(op, []string{"a", "for", "null", "id"}[g.r.Intn(4)], g.grow(depth-1, inString))
	case api.ExCall:
		return named(op, g.name(), g.some(0, 3, depth, inString)...)
	case api.ExNot, api.ExNeg:
		return tree(op, g.grow(depth-1, inString))
	case api.ExCond:
		return tree(op, g.some(3, 3, depth, inString)...)
	case api.ExList, api.ExMap:
		return list(g.some(0, 3, depth, inString)...)
	case api.ExForList:
		return loop(op, []string{"", "k"}[g.r.Intn(2)], g.name(), g.some(2, 3, depth, inString)...)
	default:
		return tree(op, g.some(2, 2, depth, inString)...)
	}
}

// full writes trees with brackets around each part, but where a key, or a piece of bytes, stands. Each bracket is a byte of its own, so that it can be told from those of a call.
type full struct{ open, shut string }

func (f full) all(l []api.Expr) []string {
	var s []string
	for _, e := range l {
		s = append(s, f.open+f.print(e)+f.shut)
	}
	return s
}

var signsInTest = []string{
	api.ExNot: "!", api.ExNeg: "-", api.ExMul: "*", api.ExDiv: "/", api.ExMod: "%", api.ExAdd: "+", api.ExSub: "-",
	api.ExLt: "<", api.ExLe: "<=", api.ExGt: ">", api.ExGe: ">=", api.ExEq: "==", api.ExNe: "!=", api.ExAnd: "&&", api.ExOr: "||",
}

func (f full) print(e api.Expr) string {
	l := f.all(e.L)
	names := e.S
	if e.S2 != "" {
		names = e.S2 + ", " + e.S
	}
	switch e.Op {
	case api.ExLit:
		return []string{"null", []string{"false", "true"}[e.V.I&1], decimal(e.V.I), lex.Quote(e.V.S)}[e.V.Kind]
	case api.ExName:
		return e.S
	case api.ExAttr:
		return l[0] + "." + e.S
	case api.ExIndex:
		return l[0] + "[" + l[1] + "]"
	case api.ExCall:
		return e.S + "(" + strings.Join(l, ", ") + ")"
	case api.ExNot, api.ExNeg:
		return signsInTest[e.Op] + l[0]
	case api.ExCond:
		return l[0] + " ? " + l[1] + " : " + l[2]
	case api.ExList:
		return "[" + strings.Join(l, ", ") + "]"
	case api.ExMap:
		return f.pairs(e.L)
	case api.ExForList:
		s := "[for " + names + " in " + l[0] + " : " + l[1]
		return s + strings.Join(append([]string{""}, l[2:]...), " if ") + "]"
	case api.ExForMap:
		s := "{for " + names + " in " + l[0] + " : " + l[1] + " => " + l[2]
		return s + strings.Join(append([]string{""}, l[3:]...), " if ") + "}"
	case api.ExText:
		return f.pieces(e.L)
	}
	return l[0] + " " + signsInTest[e.Op] + " " + l[1]
}

func decimal(n int64) string {
	if n < 10 {
		return string([]byte{'0' + byte(n)})
	}
	return decimal(n/10) + decimal(n%10)
}

func (f full) pairs(l []api.Expr) string {
	var rows []string
	for i := 0; i < len(l); i += 2 {
		key := f.print(l[i])
		if s := l[i].V.S; l[i].Op == api.ExLit && strings.Contains(" k for in true ", " "+s+" ") && s != "" {
			key = s
		}
		rows = append(rows, key+" = "+f.open+f.print(l[i+1])+f.shut)
	}
	return "{" + strings.Join(rows, ", ") + "}"
}

func (f full) pieces(l []api.Expr) string {
	s := "\""
	for _, e := range l {
		if e.Op == api.ExLit && e.V.Kind == api.VStr {
			s += strings.TrimSuffix(strings.TrimPrefix(lex.Quote(e.V.S), "\""), "\"")
		} else {
			s += "${" + f.open + f.print(e) + f.shut + "}"
		}
	}
	return s + "\""
}

// bare takes away, one by one, the brackets without which s, that has them as the bytes 1 and 2, is read as e.
func bare(s string, e api.Expr) string {
	plain := strings.NewReplacer("\x01", "(", "\x02", ")")
	for at := 0; at < len(s); at++ {
		if s[at] != 1 {
			continue
		}
		end := partner(s, at)
		without := s[:at] + s[at+1:end] + s[end+1:]
		if read, d := expr.Parse(plain.Replace(without)); d == (api.Diag{}) && expr.Same(read, e) {
			s = without
			at--
		}
	}
	return plain.Replace(s)
}

// partner is the place of the bracket that shuts the one at a place.
func partner(s string, at int) int {
	for open := 0; ; at++ {
		switch s[at] {
		case 1:
			open++
		case 2:
			open--
		}
		if open == 0 {
			return at
		}
	}
}

// agree holds that e is printed as it is with all brackets, without those that may go.
func agree(t *testing.T, e api.Expr) {
	t.Helper()
	want := bare(full{"\x01", "\x02"}.print(e), e)
	prints(t, e, want)
	turnedInto(t, full{"(", ")"}.print(e), want)
	turnedInto(t, full{" ( # ${}\n\t", "\n)\n"}.loosened(e), want)
}

// loosened is e with brackets, and in another layout, if there is no string with expressions in it: there is no line feed in these.
func (f full) loosened(e api.Expr) string {
	if hasStrings(e) {
		f = full{"( ", "\t)"}
	}
	return f.open + f.print(e) + f.shut
}

func hasStrings(e api.Expr) bool {
	for _, x := range e.L {
		if hasStrings(x) {
			return true
		}
	}
	return e.Op == api.ExText
}

// P10.1: each kind of tree in each place of each other one, and what stands in that.
func TestEachInEach(t *testing.T) {
	leaves := []api.Expr{number(1), name("a"), str("x"), lit(api.Value{}), text(str("x"), name("a")), text(name("b"))}
	for _, e := range eachKind(t, leaves, leaves) {
		agree(t, e)
	}
	for _, e := range eachKind(t, eachKind(t, leaves[1:5], leaves[1:2]), leaves[1:2]) {
		agree(t, e)
	}
}

// eachKind has trees of each kind with each of l in each of its places, and each of others in the other places.
func eachKind(t *testing.T, l, others []api.Expr) []api.Expr {
	t.Helper()
	var all []api.Expr
	for _, o := range others {
		for _, e := range l {
			all = append(all,
				named(api.ExAttr, "b", e), tree(api.ExIndex, e, o), tree(api.ExIndex, o, e), named(api.ExCall, "f", e), named(api.ExCall, "f", o, e, o), tree(api.ExNot, e), tree(api.ExNeg, e),
				tree(api.ExCond, e, o, o), tree(api.ExCond, o, e, o), tree(api.ExCond, o, o, e), list(e), list(o, e), pairs(str("for"), e), pairs(str("a b"), o, str("k"), e), pairs(text(name("a")), e),
				loop(api.ExForList, "", "v", e, o), loop(api.ExForList, "", "v", o, e), loop(api.ExForList, "k", "v", o, o, e), loop(api.ExForList, "k", "v", e, o, o), loop(api.ExForList, "k", "v", o, e, o),
				loop(api.ExForMap, "", "v", e, o, o), loop(api.ExForMap, "", "v", o, e, o), loop(api.ExForMap, "", "v", o, o, e), loop(api.ExForMap, "k", "v", o, o, e, o), loop(api.ExForMap, "k", "v", o, o, o, e), loop(api.ExForMap, "k", "v", e, o, o, o), loop(api.ExForMap, "k", "v", o, e, o, o),
			)
			for op := api.ExMul; op <= api.ExOr; op++ {
				all = append(all, tree(op, e, o), tree(op, o, e))
			}
			if x := text(e); Check(x) == api.OK {
				all = append(all, x, text(str("x"), e), text(e, str("x")))
			}
		}
	}
	return all
}

// P10.1, P10.3: trees that were made at random, and other layouts of them.
func TestGrown(t *testing.T) {
	g := grower{rand.New(rand.NewSource(10))}
	met := map[string]api.Expr{}
	for range 5000 {
		e := g.grow(2+g.r.Intn(5), false)
		agree(t, e)
		s, _ := Expr(e)
		if other, twice := met[s]; twice && !expr.Same(e, other) {
			t.Fatalf("%q is the text of two trees", s)
		}
		met[s] = e
	}
}

// P10.3: of any text that is read, what is printed is read as the same; texts that are read as unlike trees are printed as unlike texts.
func TestAnyText(t *testing.T) {
	r := rand.New(rand.NewSource(11))
	toks := []string{"a", "b", "1", "0", `"x"`, `"${a}"`, `"x${ a -b }\n"`, "true", "null", "(", ")", "(", ")", "[", "]", "{", "}", ",", ".", "?", ":", "!", "-", "+", "*", "==", "<", "&&", "||", "=", "for", "in", "if", "=>"}
	read := 0
	for range 300000 {
		var row []string
		for range 1 + r.Intn(7) {
			row = append(row, toks[r.Intn(len(toks))])
		}
		in := strings.Join(row, " ")
		e, d := expr.Parse(in)
		if d != (api.Diag{}) {
			continue
		}
		read++
		s, f := Expr(e)
		if f != api.OK {
			t.Fatalf("%q: %d", in, f)
		}
		prints(t, e, s)
	}
	if read < 4000 {
		t.Error("few texts were read:", read)
	}
}
