package show

import (
	"fmt"
	"math"
	"strings"
	"testing"

	"surety/api"
	"surety/expr"
	"surety/lex"
	"surety/value"
)

func lit(v api.Value) api.Expr { return api.Expr{Op: api.ExLit, V: v} }

func str(s string) api.Expr { return lit(value.Str(s)) }

func number(n int64) api.Expr { return lit(value.Int(n)) }

func name(s string) api.Expr { return api.Expr{Op: api.ExName, S: s} }

func tree(op int, l ...api.Expr) api.Expr { return api.Expr{Op: op, L: l} }

func named(op int, s string, l ...api.Expr) api.Expr { return api.Expr{Op: op, S: s, L: l} }

func loop(op int, k, v string, l ...api.Expr) api.Expr { return api.Expr{Op: op, S: v, S2: k, L: l} }

func text(l ...api.Expr) api.Expr { return tree(api.ExText, l...) }

func list(l ...api.Expr) api.Expr { return tree(api.ExList, l...) }

func pairs(l ...api.Expr) api.Expr { return tree(api.ExMap, l...) }

func many(n int, e api.Expr) []api.Expr {
	l := make([]api.Expr, n)
	for i := range l {
		l[i] = e
	}
	return l
}

var a, b, c = name("a"), name("b"), name("c")

// prints holds that e may be printed, as s, and that s is read as e.
func prints(t *testing.T, e api.Expr, s string) {
	t.Helper()
	if f := Check(e); f != api.OK {
		t.Errorf("Check of %.80q: %d", s, f)
	}
	got, f := Expr(e)
	if got != s || f != api.OK {
		t.Errorf("Expr: %.200q, %d; want %.200q", got, f, s)
	}
	if read, d := expr.Parse(s); d != (api.Diag{}) || !expr.Same(read, e) {
		t.Errorf("%.80q is read as another tree: %v", s, d)
	}
}

// turnedInto holds that what is read of a text is printed as s.
func turnedInto(t *testing.T, in, s string) {
	t.Helper()
	e, d := expr.Parse(in)
	if d != (api.Diag{}) {
		t.Errorf("%q: %v", in, d)
		return
	}
	prints(t, e, s)
}

// mayNot holds that e may not be printed: not alone, and not where it stands in another tree, or in an item.
func mayNot(t *testing.T, what string, e api.Expr) {
	t.Helper()
	for i, x := range []api.Expr{e, tree(api.ExNot, e), list(a, e), pairs(str("k"), e), text(str("x"), e)} {
		if f := Check(x); f != api.ErrArg {
			t.Errorf("%s (%d): Check: %d", what, i, f)
		}
		if s, f := Expr(x); s != "" || f != api.ErrArg {
			t.Errorf("%s (%d): Expr: %.80q, %d", what, i, s, f)
		}
		if s, f := Items([]api.Item{{Name: "a", E: x}}); s != "" || f != api.ErrArg {
			t.Errorf("%s (%d): Items: %.80q, %d", what, i, s, f)
		}
	}
}

// tooLong holds that e may be printed, but for its length.
func tooLong(t *testing.T, what string, e api.Expr) {
	t.Helper()
	if f := Check(e); f != api.OK {
		t.Errorf("%s: Check: %d", what, f)
	}
	if s, f := Expr(e); s != "" || f != api.ErrLong {
		t.Errorf("%s: Expr: %.80q, %d", what, s, f)
	}
	if s, f := Items([]api.Item{{Name: "a", E: e}}); s != "" || f != api.ErrLong {
		t.Errorf("%s: Items: %.80q, %d", what, s, f)
	}
}

// P10.1: the text of each kind of tree.
func TestTexts(t *testing.T) {
	for s, e := range map[string]api.Expr{
		"0": number(0), "7": number(7), "9223372036854775807": number(math.MaxInt64),
		"true": lit(value.Bool(true)), "false": lit(value.Bool(false)), "null": lit(api.Value{}),
		`""`: str(""), `"a"`: str("a"), `"a b{}#'\t\n\"\\\${x}"`: str("a b{}#'\t\n\"\\${x}"), "\"\x00\r\xff\"": str("\x00\r\xff"),
		"a": a, "_": name("_"), "_9z": name("_9z"), "abcdefghijklmnopqrstuvwx": name("abcdefghijklmnopqrstuvwx"), "fors": name("fors"),
		"f()": named(api.ExCall, "f"), "f(a)": named(api.ExCall, "f", a), "f(a, b, c)": named(api.ExCall, "f", a, b, c),
		"a.b": named(api.ExAttr, "b", a), "a.for": named(api.ExAttr, "for", a), "a.b.null": named(api.ExAttr, "null", named(api.ExAttr, "b", a)), "1.a": named(api.ExAttr, "a", number(1)), `"x".a`: named(api.ExAttr, "a", str("x")),
		"a[b]": tree(api.ExIndex, a, b), "a[0][b + c]": tree(api.ExIndex, tree(api.ExIndex, a, number(0)), tree(api.ExAdd, b, c)),
		"!a": tree(api.ExNot, a), "-a": tree(api.ExNeg, a), "-1": tree(api.ExNeg, number(1)), "!!a": tree(api.ExNot, tree(api.ExNot, a)), "--a": tree(api.ExNeg, tree(api.ExNeg, a)), "!-a": tree(api.ExNot, tree(api.ExNeg, a)), "-!a": tree(api.ExNeg, tree(api.ExNot, a)),
		"a * b": tree(api.ExMul, a, b), "a / b": tree(api.ExDiv, a, b), "a % b": tree(api.ExMod, a, b), "a + b": tree(api.ExAdd, a, b), "a - b": tree(api.ExSub, a, b), "a - -b": tree(api.ExSub, a, tree(api.ExNeg, b)),
		"a < b": tree(api.ExLt, a, b), "a <= b": tree(api.ExLe, a, b), "a > b": tree(api.ExGt, a, b), "a >= b": tree(api.ExGe, a, b), "a == b": tree(api.ExEq, a, b), "a != b": tree(api.ExNe, a, b),
		"a && b": tree(api.ExAnd, a, b), "a || b": tree(api.ExOr, a, b), "a ? b : c": tree(api.ExCond, a, b, c),
		"[]": list(), "[a]": list(a), "[a, [b], c]": list(a, list(b), c),
		"{}": pairs(), "{k = a}": pairs(str("k"), a), "{k = a, l = {}}": pairs(str("k"), a, str("l"), pairs()), "{a = a, a = b}": pairs(str("a"), a, str("a"), b),
		"{for = a, in = b, if = c, true = a, false = b, null = c}":                             pairs(str("for"), a, str("in"), b, str("if"), c, str("true"), a, str("false"), b, str("null"), c),
		`{"" = a, "A" = a, "1" = a, "k " = a, " k" = a, "k.l" = a, "a\n" = a, "é" = a, _ = a}`: pairs(str(""), a, str("A"), a, str("1"), a, str("k "), a, str(" k"), a, str("k.l"), a, str("a\n"), a, str("é"), a, str("_"), a),
		`{abcdefghijklmnopqrstuvwx = a, "abcdefghijklmnopqrstuvwxy" = b}`:                      pairs(str("abcdefghijklmnopqrstuvwx"), a, str("abcdefghijklmnopqrstuvwxy"), b),
		`{"x${a}" = b, "${c}" = "x"}`:                                                          pairs(text(str("x"), a), b, text(c), str("x")),
		"[for v in a : b]":                                                                     loop(api.ExForList, "", "v", a, b),
		"[for v in a : b if c]":                                                                loop(api.ExForList, "", "v", a, b, c),
		"[for k, v in a : b]":                                                                  loop(api.ExForList, "k", "v", a, b),
		"[for k, v in a : b if c]":                                                             loop(api.ExForList, "k", "v", a, b, c),
		"[for v, v in v : v]":                                                                  loop(api.ExForList, "v", "v", name("v"), name("v")),
		"{for v in a : b => c}":                                                                loop(api.ExForMap, "", "v", a, b, c),
		"{for v in a : b => c if a}":                                                           loop(api.ExForMap, "", "v", a, b, c, a),
		"{for k, v in a : b => c}":                                                             loop(api.ExForMap, "k", "v", a, b, c),
		"{for k, v in a : b => c if a}":                                                        loop(api.ExForMap, "k", "v", a, b, c, a),
		`"${a}"`:                                                                               text(a),
		`"x${a}"`:                                                                              text(str("x"), a),
		`"${a}x"`:                                                                              text(a, str("x")),
		`"${a}${b}"`:                                                                           text(a, b),
		`"x${a}y${b}${c}z"`:                                                                    text(str("x"), a, str("y"), b, c, str("z")),
		`"${1}${true}${null}"`:                                                                 text(number(1), lit(value.Bool(true)), lit(api.Value{})),
		"\"\\\"\\\\\\n\\t\\${${a}} \\$x\"":                                                     text(str("\"\\\n\t${"), a, str("} $x")),
		`"${a.b[0] + f(-1)}"`:                                                                  text(tree(api.ExAdd, tree(api.ExIndex, named(api.ExAttr, "b", a), number(0)), named(api.ExCall, "f", tree(api.ExNeg, number(1))))),
		`"${[for v in a : b ? c : v if a]}"`:                                                   text(loop(api.ExForList, "", "v", a, tree(api.ExCond, b, c, name("v")), a)),
		`"${a ? b : c}"["${(a ? b : c).d}"]`:                                                   tree(api.ExIndex, text(tree(api.ExCond, a, b, c)), text(named(api.ExAttr, "d", tree(api.ExCond, a, b, c)))),
		`{k = a ? b : c, l = "x", "${a}" = "y"}`:                                               pairs(str("k"), tree(api.ExCond, a, b, c), str("l"), str("x"), text(a), str("y")),
	} {
		prints(t, e, s)
	}
}

// P10.1: brackets that were needed stay, others go.
func TestBrackets(t *testing.T) {
	for in, want := range map[string]string{
		"(a + b) * c": "(a + b) * c", "a + (b * c)": "a + b * c", "a - (b - c)": "a - (b - c)", "(a - b) - c": "a - b - c",
		"((a))": "a", "(1)": "1", "(\"a\")": "\"a\"", "([a])": "[a]", "({k = a})": "{k = a}", "(f)": "f", "(f((a)))": "f(a)", "[(a)]": "[a]", "{k: (a)}": "{k = a}",
		"-(-a)": "--a", "-(a + b)": "-(a + b)", "(-a) + b": "-a + b", "-(a * b)": "-(a * b)", "(-a) * b": "-a * b", "a * (-b)": "a * -b", "a - (-b)": "a - -b", "!(a == b)": "!(a == b)", "!(a.b)": "!a.b", "(!a).b": "(!a).b", "-(a[b])": "-a[b]", "(-a)[b]": "(-a)[b]", "-(1)": "-1", "(-1).a": "(-1).a",
		"(a.b).c": "a.b.c", "(a[b])[c]": "a[b][c]", "(f(a)).b": "f(a).b", "([a])[b]": "[a][b]", "({k = a}).k": "{k = a}.k", "(\"x${a}\").b": "\"x${a}\".b", "([for v in a : v])[0]": "[for v in a : v][0]", "(a + b).c": "(a + b).c", "(a + b)[c]": "(a + b)[c]", "a[(b + c)]": "a[b + c]", "(1).a": "1.a", "(null)[0]": "null[0]",
		"a / (b * c)": "a / (b * c)", "(a / b) * c": "a / b * c", "a * (b % c)": "a * (b % c)", "a + (b + c)": "a + (b + c)", "a + (b - c)": "a + (b - c)",
		"a && (b && c)": "a && (b && c)", "(a && b) && c": "a && b && c", "a || (b || c)": "a || (b || c)", "(a || b) || c": "a || b || c", "a && (b || c)": "a && (b || c)", "(a && b) || c": "a && b || c", "a || (b && c)": "a || b && c", "(a || b) && c": "(a || b) && c",
		"(a == b) == c": "(a == b) == c", "a == (b == c)": "a == (b == c)", "(a < b) != (b > c)": "(a < b) != (b > c)", "(a == b) && (b == c)": "a == b && b == c", "(a + b) < (c * a)": "a + b < c * a", "a + (b < c)": "a + (b < c)", "(a < b) + c": "(a < b) + c",
		"(a ? b : c) ? a : b": "(a ? b : c) ? a : b", "a ? (b ? c : a) : b": "a ? b ? c : a : b", "a ? b : (c ? a : b)": "a ? b : c ? a : b", "(a || b) ? c : a": "a || b ? c : a", "a || (b ? c : a)": "a || (b ? c : a)", "!(a ? b : c)": "!(a ? b : c)", "(a ? b : c) + 1": "(a ? b : c) + 1", "1 + (a ? b : c)": "1 + (a ? b : c)", "f((a ? b : c), (a))": "f(a ? b : c, a)", "[(a ? b : c)]": "[a ? b : c]",
		"[for v in (a ? b : c) : (v ? a : b) if (v || a)]": "[for v in a ? b : c : v ? a : b if v || a]", "{for v in (a) : (v > 1) => (v >= 2) if (c ? a : b)}": "{for v in a : v > 1 => v >= 2 if c ? a : b}",
		"\"${(a)}${(b + c)}\"": "\"${a}${b + c}\"", "\"${(a + b) * c}\"": "\"${(a + b) * c}\"",
	} {
		turnedInto(t, in, want)
	}
}

// P10.1, P10.3: what is written in another layout is printed the one way.
func TestOneWay(t *testing.T) {
	for in, want := range map[string]string{
		" a+b # c\n": "a + b", "a\n?\nb\n:\nc": "a ? b : c", "f (a ,)": "f(a)", "[ a,b, ]": "[a, b]", "{ \"k\" : a , }": "{k = a}", "a . b [ 0 ]": "a.b[0]", "- - a": "--a", "! a": "!a",
		"\"a\\$${ b+1 }\\n\"": "\"a\\$${b + 1}\\n\"", "\"$x$$\"": "\"\\$x\\$\\$\"", "\"\t\"": "\"\\t\"", "\"${a # z}\"": "\"${a}\"", "\"${ f(a,) }\"": "\"${f(a)}\"",
		"[for k,v in a:v if k]": "[for k, v in a : v if k]", "{for v in a:v=>v}": "{for v in a : v => v}", "a\t<=\tb": "a <= b", "{for: a}": "{for = a}",
	} {
		turnedInto(t, in, want)
	}
}

// P10.1: of each kind of tree the names it has, too few parts, too many, and what no tree of its kind has.
func TestShapes(t *testing.T) {
	least := map[int][2]int{
		api.ExLit: {0, 0}, api.ExName: {0, 0}, api.ExAttr: {1, 1}, api.ExIndex: {2, 2}, api.ExCall: {0, 128}, api.ExNot: {1, 1}, api.ExNeg: {1, 1}, api.ExCond: {3, 3},
		api.ExList: {0, 128}, api.ExMap: {0, 256}, api.ExForList: {2, 3}, api.ExForMap: {3, 4}, api.ExText: {1, 600},
	}
	for op := api.ExMul; op <= api.ExOr; op++ {
		least[op] = [2]int{2, 2}
	}
	for op := -2; op <= api.ExText+2; op++ {
		n, known := least[op]
		part := number(1)
		if op == api.ExMap {
			part = text(a)
		}
		for k := range 260 {
			want := known && k >= n[0] && k <= n[1] && (op != api.ExMap || k%2 == 0)
			e := api.Expr{Op: op, L: many(k, part)}
			switch op {
			case api.ExName, api.ExAttr, api.ExCall, api.ExForList, api.ExForMap:
				e.S = "v"
			}
			if (Check(e) == api.OK) != want {
				t.Errorf("the kind %d with %d parts: %d", op, k, Check(e))
			}
			if want {
				wrongFields(t, e)
			}
		}
	}
	for _, op := range []int{math.MinInt, -1, 0, 27, math.MaxInt} {
		mayNot(t, fmt.Sprint("the kind ", op), tree(op))
		mayNot(t, fmt.Sprint("the kind ", op), api.Expr{Op: op, S: "a", L: many(2, a)})
	}
	mayNot(t, "nothing", api.Expr{})
}

// wrongFields holds that e, which may be printed, may not with another field than those of its kind.
func wrongFields(t *testing.T, e api.Expr) {
	t.Helper()
	with := func(f func(x *api.Expr)) {
		t.Helper()
		x := e
		f(&x)
		if Check(x) != api.ErrArg {
			t.Errorf("the kind %d: %q, %q, %v", e.Op, x.S, x.S2, x.V)
		}
	}
	if e.S == "" {
		with(func(x *api.Expr) { x.S = "a" })
	} else {
		with(func(x *api.Expr) { x.S = "" })
	}
	if e.Op != api.ExForList && e.Op != api.ExForMap {
		with(func(x *api.Expr) { x.S2 = "a" })
	}
	if e.Op != api.ExLit {
		for _, v := range []api.Value{value.Int(0), value.Int(1), value.Str(""), {Secret: true}, {I: 1}, {S: "a"}, {L: make([]api.Value, 1)}, {Keys: []string{""}}, {T: api.Type{Kind: api.Int}}, {T: api.Type{Of: 1}}, {Kind: -1}} {
			with(func(x *api.Expr) { x.V = v })
		}
	}
	x := e
	x.Pos = api.Pos{At: -5, Line: 1 << 40, Col: 3}
	x.V.L, x.V.Keys, x.L = append([]api.Value{}, x.V.L...), []string{}, append([]api.Expr{}, x.L...)
	if Check(x) != api.OK {
		t.Errorf("the kind %d: places, and lists of nothing", e.Op)
	}
}

// P10.1: names, free or not.
func TestNames(t *testing.T) {
	no := []string{"A", "1", "1a", "a ", " a", "a.b", "a-b", "a\n", "\x00", "a\x00", "é", "a#", "\"a\"", "+", "aB", "a b", "abcdefghijklmnopqrstuvwxy", strings.Repeat("a", api.MaxText+1), "("}
	reserved := []string{"true", "false", "null", "for", "in", "if"}
	for _, s := range no {
		mayNot(t, s, name(s))
		mayNot(t, s, named(api.ExCall, s))
		mayNot(t, s, named(api.ExAttr, s, a))
		mayNot(t, s, loop(api.ExForList, "", s, a, b))
		mayNot(t, s, loop(api.ExForList, s, "v", a, b))
		mayNot(t, s, loop(api.ExForMap, "", s, a, b, c))
		mayNot(t, s, loop(api.ExForMap, s, "v", a, b, c))
	}
	for _, s := range reserved {
		mayNot(t, s, name(s))
		mayNot(t, s, named(api.ExCall, s))
		mayNot(t, s, loop(api.ExForList, "", s, a, b))
		mayNot(t, s, loop(api.ExForList, s, "v", a, b))
		mayNot(t, s, loop(api.ExForMap, "", s, a, b, c))
		mayNot(t, s, loop(api.ExForMap, s, "v", a, b, c))
		prints(t, named(api.ExAttr, s, a), "a."+s)
	}
	for _, s := range []string{"", "for "} {
		mayNot(t, s, name(s))
		mayNot(t, s, named(api.ExAttr, s, a))
	}
	mayNot(t, "no element", loop(api.ExForList, "k", "", a, b))
	mayNot(t, "no element", loop(api.ExForMap, "k", "", a, b, c))
	for at := range 256 {
		s := string([]byte{byte(at)})
		first := strings.Contains("abcdefghijklmnopqrstuvwxyz_", s)
		if (Check(name(s)) == api.OK) != first || (Check(name("a"+s)) == api.OK) != (first || strings.Contains("0123456789", s)) {
			t.Errorf("the byte %d in a name", at)
		}
	}
}

// P10.1: literals that are none of a text's.
func TestLiterals(t *testing.T) {
	for i, v := range []api.Value{
		value.Int(-1), value.Int(math.MinInt64), {Kind: api.VBool, I: 2}, {Kind: api.VBool, I: -1}, value.List(), value.List(value.Int(1)), {Kind: api.VMap}, value.Unknown(api.Type{}), value.Unknown(api.Type{Kind: api.Int}),
		{Kind: -1}, {Kind: 7}, {Kind: math.MinInt}, {I: 1}, {S: "a"}, {Kind: api.VInt, S: "a"}, {Kind: api.VStr, I: 1}, {Kind: api.VBool, S: "a"}, {L: make([]api.Value, 1)}, {Kind: api.VStr, S: "a", Keys: []string{"a"}}, {Kind: api.VInt, T: api.Type{Kind: 1}}, {T: api.Type{Of: 1}},
		value.Mark(api.Value{}), value.Mark(value.Int(1)), value.Mark(value.Bool(true)), value.Mark(value.Str("a")), value.Str(strings.Repeat("a", api.MaxStr+1)),
	} {
		mayNot(t, fmt.Sprint("the value ", i), lit(v))
	}
	s := strings.Repeat("\n", api.MaxStr)
	prints(t, str(s), lex.Quote(s))
	mayNot(t, "a long key", pairs(str(s+"\n"), a))
	mayNot(t, "a marked key", pairs(lit(value.Mark(value.Str("k"))), a))
	mayNot(t, "a marked piece", text(lit(value.Mark(value.Str("k"))), a))
	mayNot(t, "a long piece", text(str(s+"\n"), a))
}

// P10.1: what a map's keys may be, and what stands in strings.
func TestKeysAndPieces(t *testing.T) {
	for i, k := range []api.Expr{number(1), lit(api.Value{}), lit(value.Bool(true)), a, named(api.ExAttr, "b", a), list(), pairs(), tree(api.ExAdd, str("a"), str("b")), {}, {Op: api.ExLit, S: "k", V: value.Str("k")}, text(), text(str("k"))} {
		mayNot(t, fmt.Sprint("the key ", i), pairs(k, a))
		mayNot(t, fmt.Sprint("the second key ", i), pairs(str("k"), a, k, a))
	}
	mayNot(t, "a key alone", pairs(str("k")))
	mayNot(t, "two keys, and one value", pairs(str("k"), str("v"), str("l")))
	for i, l := range [][]api.Expr{{}, {str("x")}, {str("")}, {str(""), a}, {a, str("")}, {str("x"), str("y"), a}, {a, str("x"), str("y")}, {str("x"), a, str("y"), str("z")}, {str("x"), str("y")}, {a, {Op: api.ExLit, S2: "s", V: value.Str("x")}}} {
		mayNot(t, fmt.Sprint("the pieces ", i), text(l...))
	}
	inner := []api.Expr{str("x"), text(a), text(str("x"), a), pairs(), pairs(str("k"), a), loop(api.ExForMap, "", "v", a, b, c)}
	for i, e := range inner {
		for _, around := range []api.Expr{named(api.ExCall, "f", e), tree(api.ExNot, e), tree(api.ExIndex, a, e), tree(api.ExIndex, e, a), list(a, list(e)), tree(api.ExCond, a, b, e), loop(api.ExForList, "", "v", e, a), named(api.ExAttr, "a", e), tree(api.ExAdd, a, tree(api.ExAdd, e, b))} {
			if Check(around) != api.OK {
				t.Errorf("the kind %d around %d", around.Op, i)
			}
			mayNot(t, fmt.Sprint("in a string ", i), text(around))
			mayNot(t, fmt.Sprint("in a string ", i), text(str("x"), a, around, str("y")))
		}
		if i > 0 {
			mayNot(t, fmt.Sprint("a string's part ", i), text(e))
			mayNot(t, fmt.Sprint("a string's part ", i), text(a, e))
		}
	}
	prints(t, list(text(a), str("x"), pairs(), text(b, str("x"), c), text(list(a), list(b))), `["${a}", "x", {}, "${b}x${c}", "${[a]}${[b]}"]`)
}

// P10.1: the depth, up to MaxNest.
func TestDepth(t *testing.T) {
	grown := func(e api.Expr, n int, f func(e api.Expr) api.Expr) api.Expr {
		for range n {
			e = f(e)
		}
		return e
	}
	for i, f := range []func(e api.Expr) api.Expr{
		func(e api.Expr) api.Expr { return tree(api.ExNeg, e) },
		func(e api.Expr) api.Expr { return tree(api.ExAdd, a, e) },
		func(e api.Expr) api.Expr { return tree(api.ExAdd, e, a) },
		func(e api.Expr) api.Expr { return list(a, e, b) },
		func(e api.Expr) api.Expr { return named(api.ExAttr, "b", e) },
		func(e api.Expr) api.Expr { return tree(api.ExCond, a, b, e) },
		func(e api.Expr) api.Expr { return loop(api.ExForList, "", "v", a, b, e) },
	} {
		for _, end := range []api.Expr{a, number(1), named(api.ExCall, "f")} {
			e := grown(end, api.MaxNest-1, f)
			if s, g := Expr(e); g != api.OK {
				t.Error(i, g)
			} else {
				prints(t, e, s)
			}
			mayNot(t, fmt.Sprint("deep ", i), grown(end, api.MaxNest, f))
			e = text(grown(end, api.MaxNest-2, f))
			if s, g := Expr(e); g != api.OK {
				t.Error(i, g)
			} else {
				prints(t, e, s)
			}
			mayNot(t, fmt.Sprint("deep in a string ", i), text(grown(end, api.MaxNest-1, f)))
		}
	}
	prints(t, grown(text(str("x"), a), api.MaxNest-2, func(e api.Expr) api.Expr { return tree(api.ExNot, e) }), strings.Repeat("!", api.MaxNest-2)+`"x${a}"`)
	mayNot(t, "a deep string", grown(text(str("x"), a), api.MaxNest-1, func(e api.Expr) api.Expr { return tree(api.ExNot, e) }))
	mayNot(t, "a deep map", grown(a, api.MaxNest, func(e api.Expr) api.Expr { return pairs(str("k"), e) }))
	mayNot(t, "a deep key", pairs(grown(text(a), 1, func(e api.Expr) api.Expr {
		return text(grown(a, api.MaxNest-2, func(e api.Expr) api.Expr { return list(e) }))
	}), b))
}

// P10.1: how long a string may be: its bytes, and the texts of its expressions.
func TestLongStrings(t *testing.T) {
	x := func(n int) string { return strings.Repeat("x", n) }
	fits := func(e api.Expr, s string) {
		t.Helper()
		prints(t, e, s)
	}
	fits(text(str(x(1023)), a), `"`+x(1023)+`${a}"`)
	tooLong(t, "a name more", text(str(x(1024)), a))
	tooLong(t, "a name of two more", text(str(x(1023)), name("ab")))
	fits(text(a, str(x(1023))), `"${a}`+x(1023)+`"`)
	tooLong(t, "behind a name", text(a, str(x(1024))))
	fits(text(str(x(500)), a, str(x(518)), tree(api.ExAdd, a, b)), `"`+x(500)+`${a}`+x(518)+`${a + b}"`)
	tooLong(t, "two pieces", text(str(x(500)), a, str(x(519)), tree(api.ExAdd, a, b)))
	quotes := strings.Repeat("\"", 1023)
	fits(text(str(quotes), a), `"`+strings.Repeat(`\"`, 1023)+`${a}"`)
	tooLong(t, "written twice as long", text(str(quotes+"\""), a))
	fits(text(many(1024, a)...), `"`+strings.Repeat("${a}", 1024)+`"`)
	tooLong(t, "one expression more", text(many(1025, a)...))
	tooLong(t, "a great many expressions", text(many(20000, a)...))
	long := name("abcdefghijklmnopqrstuvwx")
	fits(text(named(api.ExCall, "f", many(39, long)...), a), `"${f(`+strings.Repeat("abcdefghijklmnopqrstuvwx, ", 38)+`abcdefghijklmnopqrstuvwx)}${a}"`)
	tooLong(t, "a call", text(named(api.ExCall, "f", many(40, long)...)))
	tooLong(t, "within a list", list(a, text(str(x(1024)), a), b))
	tooLong(t, "as a key", pairs(text(str(x(1024)), a), b))
	if s, f := Expr(list(text(str(x(1023)), a), text(str(x(1023)), a))); f != api.OK || len(s) != 2*(1023+6)+4 {
		t.Error("two strings", len(s), f)
	}
}

// row is a list whose text has n bytes.
func row(n int) api.Expr {
	var l []api.Expr
	n -= 2
	for n > api.MaxStr+2 {
		l = append(l, str(strings.Repeat("x", 1000)))
		n -= 1004
	}
	return list(append(l, str(strings.Repeat("x", n-2)))...)
}

// P10.1: how long a text may be.
func TestLongTexts(t *testing.T) {
	for n := api.MaxText - 30; n <= api.MaxText; n++ {
		s, f := Expr(row(n))
		if len(s) != n || f != api.OK {
			t.Error(n, len(s), f)
		}
		if read, d := expr.Parse(s); d != (api.Diag{}) || !expr.Same(read, row(n)) {
			t.Error(n, d)
		}
	}
	tooLong(t, "one byte more", row(api.MaxText+1))
	tooLong(t, "two bytes more", row(api.MaxText+2))
	tooLong(t, "much more", list(many(128, list(many(128, str(strings.Repeat("x", 1000)))...))...))
	tooLong(t, "a sign more", tree(api.ExNot, row(api.MaxText)))
	tooLong(t, "a name more", named(api.ExAttr, "a", row(api.MaxText-1)))
	tooLong(t, "quotes", list(many(20, str(strings.Repeat("\\", 1024)))...))
	if s, f := Expr(tree(api.ExNot, row(api.MaxText-1))); len(s) != api.MaxText || f != api.OK {
		t.Error(len(s), f)
	}
	mayNot(t, "too long, and no tree", tree(api.ExAdd, row(api.MaxText+1), api.Expr{}))
	mayNot(t, "too long, and no name", tree(api.ExAdd, text(str(strings.Repeat("x", 1024)), a), name("A")))
}

// R1: trees of any shape.
func TestAnyTree(t *testing.T) {
	deep := api.Expr{Op: api.ExLit, V: value.Int(1)}
	for range 1 << 16 {
		deep = api.Expr{Op: api.ExNot, L: []api.Expr{deep}}
	}
	mayNot(t, "a deep tree", deep)
	v := value.Int(1)
	for range 1 << 16 {
		v = api.Value{Kind: api.VList, L: []api.Value{v}}
	}
	mayNot(t, "a deep value", lit(v))
	mayNot(t, "a deep value", api.Expr{Op: api.ExName, S: "a", V: v})
	mayNot(t, "a wide tree", list(many(1<<20, a)...))
	mayNot(t, "a wide string", text(append(many(1<<16, a), str(""))...))
	mayNot(t, "a wide name", api.Expr{Op: api.ExName, S: strings.Repeat("a", 1<<24)})
	for op := -1; op < 30; op++ {
		for n := range 6 {
			for _, part := range []api.Expr{{}, a, str(""), {Op: -1}, {Op: api.ExText}, {Op: api.ExAttr, S: "a"}, {Op: api.ExCond}} {
				e := api.Expr{Op: op, S: "a", L: many(n, part)}
				s, f := Expr(e)
				if f != Check(e) || (s == "") != (f != api.OK) {
					t.Error(op, n, s, f)
				}
			}
		}
	}
}

// R4: nothing that is handed in is changed, and the room behind isn't read.
func TestNothingIsChanged(t *testing.T) {
	fresh := func() api.Expr {
		l := append(make([]api.Expr, 0, 6), a, text(append(make([]api.Expr, 0, 4), str("x"), b)...))
		e := list(l...)
		e.L = l
		room := l[:cap(l)]
		for i := len(l); i < len(room); i++ {
			room[i] = api.Expr{Op: 99, S: "room"}
		}
		return e
	}
	e := fresh()
	s, f := Expr(e)
	items := append(make([]api.Item, 0, 4), api.Item{Block: true, Name: "a", Labels: append(make([]string, 0, 3), "l"), Items: append(make([]api.Item, 0, 2), api.Item{Name: "b", E: e})})
	items[:2][1] = api.Item{Name: "?"}
	lines, g := Items(items)
	if s != `[a, "x${b}"]` || f != api.OK || lines != "a \"l\" {\n  b = [a, \"x${b}\"]\n}\n" || g != api.OK {
		t.Error(s, f, lines, g)
	}
	if !expr.Same(e, fresh()) || e.L[:4][3].S != "room" || items[:2][1].Name != "?" || items[:3][2].Name != "" || items[0].Labels[:2][1] != "" || items[0].Items[:2][1].Name != "" {
		t.Error("something was changed")
	}
	if again, _ := Expr(e); again != s {
		t.Error(again)
	}
}
