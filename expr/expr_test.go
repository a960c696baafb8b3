package expr

import (
	"fmt"
	"math"
	"strings"
	"testing"

	"surety/api"
	"surety/lex"
	"surety/value"
)

var kinds = []string{
	"none", "lit", "name", "attr", "index", "call", "not", "neg", "mul", "div", "mod", "add", "sub", "lt", "le", "gt", "ge",
	"eq", "ne", "and", "or", "cond", "list", "map", "forlist", "formap", "text",
}

// brief is a tree as a text: kinds, names, literals, places, parts.
func brief(e api.Expr) string {
	var b strings.Builder
	if e.Op == api.ExLit {
		switch e.V.Kind {
		case api.VNull:
			b.WriteString("null")
		case api.VBool:
			b.WriteString([]string{"false", "true"}[e.V.I])
		case api.VInt:
			fmt.Fprint(&b, e.V.I)
		case api.VStr:
			fmt.Fprintf(&b, "%q", e.V.S)
		default:
			fmt.Fprint(&b, e.V)
		}
	} else {
		b.WriteString(kinds[e.Op])
	}
	if e.S != "" || e.S2 != "" {
		b.WriteString(":" + e.S)
	}
	if e.S2 != "" {
		b.WriteString("," + e.S2)
	}
	fmt.Fprintf(&b, "@%d", e.Pos.At)
	if e.L != nil {
		b.WriteString("(")
		for i, p := range e.L {
			if i > 0 {
				b.WriteString(" ")
			}
			b.WriteString(brief(p))
		}
		b.WriteString(")")
	}
	return b.String()
}

// placed holds that each place in e is one of s, with its line and byte in it, and that nothing but a literal has a value.
func placed(t *testing.T, s string, e api.Expr) {
	t.Helper()
	if e.Pos != lex.At(s, e.Pos.At) {
		t.Errorf("%.80q: a place %v; want %v", s, e.Pos, lex.At(s, e.Pos.At))
	}
	if e.Op != api.ExLit && !value.Same(e.V, api.Value{}) {
		t.Errorf("%.80q: a value at %v", s, e.Pos)
	}
	for _, p := range e.L {
		placed(t, s, p)
	}
}

// has holds that s is read as a tree that is told so.
func has(t *testing.T, s, want string) {
	t.Helper()
	e, d := Parse(s)
	if d != (api.Diag{}) || brief(e) != want {
		t.Errorf("Parse(%.80q) = %s, %v; want %s", s, brief(e), d, want)
		return
	}
	placed(t, s, e)
}

// fails holds that this is what is wrong in s.
func fails(t *testing.T, s string, code api.Errno, at int) {
	t.Helper()
	e, d := Parse(s)
	if d != (api.Diag{Code: code, Pos: lex.At(s, at)}) || !isZero(e) {
		t.Errorf("Parse(%.80q) = %.80s, %v; want %d at %d", s, brief(e), d, code, at)
	}
}

func isZero(e api.Expr) bool {
	return Same(e, api.Expr{}) && e.Pos == (api.Pos{})
}

func reads(t *testing.T, s string) api.Expr {
	t.Helper()
	e, d := Parse(s)
	if d != (api.Diag{}) {
		t.Errorf("Parse(%.80q): %v", s, d)
	}
	return e
}

// P8.1: each thing that an expression may begin with, and what stands behind it.
func TestTrees(t *testing.T) {
	for _, x := range [][2]string{
		{"0", "0@0"},
		{"9223372036854775807", "9223372036854775807@0"},
		{"true", "true@0"},
		{"false", "false@0"},
		{"null", "null@0"},
		{"a", "name:a@0"},
		{"truex", "name:truex@0"},
		{"_for", "name:_for@0"},
		{"abcdefghijklmnopqrstuvwx", "name:abcdefghijklmnopqrstuvwx@0"},
		{" \n\ta # b\n", "name:a@3"},
		{`""`, `""@0`},
		{`"a\n\"\$\\{}"`, `"a\n\"$\\{}"@0`},
		{"f()", "call:f@0"},
		{"f(a)", "call:f@0(name:a@2)"},
		{"f(a,)", "call:f@0(name:a@2)"},
		{"f (\na, 1 ,b)", "call:f@0(name:a@4 1@7 name:b@10)"},
		{"f(g(h()))", "call:f@0(call:g@2(call:h@4))"},
		{"f(a)(", ""},
		{"(a)", "name:a@1"},
		{"((a + b))", "add@4(name:a@2 name:b@6)"},
		{"( \"a\" )", `"a"@2`},
		{"[]", "list@0"},
		{"[a]", "list@0(name:a@1)"},
		{"[a,]", "list@0(name:a@1)"},
		{" [1, [2], []]", "list@1(1@2 list@5(2@6) list@10)"},
		{"{}", "map@0"},
		{"{a = 1}", `map@0("a"@1 1@5)`},
		{"{a: 1,}", `map@0("a"@1 1@4)`},
		{`{"a b": 1, c = d, "": {}}`, `map@0("a b"@1 1@8 "c"@11 name:d@15 ""@18 map@22)`},
		{`{"a": 1, a = 2}`, `map@0("a"@1 1@6 "a"@9 2@13)`},
		{`{"x${k}" = 1}`, `map@0(text@1("x"@1 name:k@5) 1@11)`},
		{"{true = 1, false: 2, null = 3, in: 4, if = 5, for: 6}", `map@0("true"@1 1@8 "false"@11 2@18 "null"@21 3@28 "in"@31 4@35 "if"@38 5@43 "for"@46 6@51)`},
		{"{for = 1}", `map@0("for"@1 1@7)`},
		{"{for: for}", ""},
		{"{a: b ? c : d}", `map@0("a"@1 cond@6(name:b@4 name:c@8 name:d@12))`},
		{"{a = b == c}", `map@0("a"@1 eq@7(name:b@5 name:c@10))`},
		{"[for v in m : v]", "forlist:v@0(name:m@10 name:v@14)"},
		{"[for k, v in m : v if k]", "forlist:v,k@0(name:m@13 name:v@17 name:k@22)"},
		{"[for x,x in[]:x]", "forlist:x,x@0(list@11 name:x@14)"},
		{"[for v in a ? b : c : d]", "forlist:v@0(cond@12(name:a@10 name:b@14 name:c@18) name:d@22)"},
		{"[for v in m : v ? 1 : 2 if !v]", "forlist:v@0(name:m@10 cond@16(name:v@14 1@18 2@22) not@27(name:v@28))"},
		{"{for v in m : v.id => v}", "formap:v@0(name:m@10 attr:id@15(name:v@14) name:v@22)"},
		{"{for k, v in m : k => v if true}", "formap:v,k@0(name:m@13 name:k@17 name:v@22 true@27)"},
		{"{for v in {} : v >= 1 => v > 2}", "formap:v@0(map@10 ge@17(name:v@15 1@20) gt@27(name:v@25 2@29))"},
		{"[for v in [for w in m : w] : [for x in v : x]]", "forlist:v@0(forlist:w@10(name:m@20 name:w@24) forlist:x@29(name:v@39 name:x@43))"},
		{"[[for v in m : v]]", "list@0(forlist:v@1(name:m@11 name:v@15))"},
		{"a.b", "attr:b@1(name:a@0)"},
		{"a . b\n.c", "attr:c@6(attr:b@2(name:a@0))"},
		{"a.true.false.null.for.in.if", "attr:if@24(attr:in@21(attr:for@17(attr:null@12(attr:false@6(attr:true@1(name:a@0))))))"},
		{"a[0]", "index@1(name:a@0 0@2)"},
		{"a.b[0]", "index@3(attr:b@1(name:a@0) 0@4)"},
		{"a[b][c.d].e", "attr:e@9(index@4(index@1(name:a@0 name:b@2) attr:d@6(name:c@5)))"},
		{"f().a[1]", "index@5(attr:a@3(call:f@0) 1@6)"},
		{"1.a", "attr:a@1(1@0)"},
		{"null.a", "attr:a@4(null@0)"},
		{`"a".b["c"]`, `index@5(attr:b@3("a"@0) "c"@6)`},
		{"[a][0]", "index@3(list@0(name:a@1) 0@4)"},
		{"{a = 1}.a", `attr:a@7(map@0("a"@1 1@5))`},
		{"(a + b).c", "attr:c@7(add@3(name:a@1 name:b@5))"},
		{"[for v in m : v][0]", "index@16(forlist:v@0(name:m@10 name:v@14) 0@17)"},
		{"a[b ? 0 : 1]", "index@1(name:a@0 cond@4(name:b@2 0@6 1@10))"},
		{"!a", "not@0(name:a@1)"},
		{"-1", "neg@0(1@1)"},
		{"!-!a", "not@0(neg@1(not@2(name:a@3)))"},
		{"- - 9223372036854775807", "neg@0(neg@2(9223372036854775807@4))"},
		{"-a.b[0]", "neg@0(index@4(attr:b@2(name:a@1) 0@5))"},
		{"!f(a)", "not@0(call:f@1(name:a@3))"},
		{"a ? b : c", "cond@2(name:a@0 name:b@4 name:c@8)"},
		{"a ? b : c ? d : e", "cond@2(name:a@0 name:b@4 cond@10(name:c@8 name:d@12 name:e@16))"},
		{"a ? b ? c : d : e", "cond@2(name:a@0 cond@6(name:b@4 name:c@8 name:d@12) name:e@16)"},
		{"(a ? b : c) ? d : e", "cond@12(cond@3(name:a@1 name:b@5 name:c@9) name:d@14 name:e@18)"},
		{"a || b ? c && d : -e", "cond@7(or@2(name:a@0 name:b@5) and@11(name:c@9 name:d@14) neg@18(name:e@19))"},
		{"a\n? b\n: c", "cond@2(name:a@0 name:b@4 name:c@8)"},
	} {
		if x[1] == "" {
			if _, d := Parse(x[0]); d.Code != api.ErrForm {
				t.Errorf("Parse(%q): %v", x[0], d)
			}
			continue
		}
		has(t, x[0], x[1])
	}
}

// levelsInTest are the signs between two operands, the loosest ones first, and the kinds of their trees.
var levelsInTest = [][]struct {
	sign string
	op   int
}{
	{{"||", api.ExOr}},
	{{"&&", api.ExAnd}},
	{{"==", api.ExEq}, {"!=", api.ExNe}, {"<", api.ExLt}, {"<=", api.ExLe}, {">", api.ExGt}, {">=", api.ExGe}},
	{{"+", api.ExAdd}, {"-", api.ExSub}},
	{{"*", api.ExMul}, {"/", api.ExDiv}, {"%", api.ExMod}},
}

// P8.1: each sign between two operands, ahead of, behind and between others.
func TestSigns(t *testing.T) {
	for i, row := range levelsInTest {
		for _, x := range row {
			k := kinds[x.op]
			n := len(x.sign)
			has(t, "a"+x.sign+"b", fmt.Sprintf("%s@1(name:a@0 name:b@%d)", k, 1+n))
			has(t, "-a"+x.sign+"!b", fmt.Sprintf("%s@2(neg@0(name:a@1) not@%d(name:b@%d))", k, 2+n, 3+n))
			has(t, "a.b"+x.sign+"c[0]", fmt.Sprintf("%s@3(attr:b@1(name:a@0) index@%d(name:c@%d 0@%d))", k, 4+n, 3+n, 5+n))
			has(t, "a"+x.sign+"b?c:d", fmt.Sprintf("cond@%d(%s@1(name:a@0 name:b@%d) name:c@%d name:d@%d)", 2+n, k, 1+n, 3+n, 5+n))
			has(t, "a?b:c"+x.sign+"d", fmt.Sprintf("cond@1(name:a@0 name:b@2 %s@5(name:c@4 name:d@%d))", k, 5+n))
			for j, other := range levelsInTest {
				for _, y := range other {
					s := "a " + x.sign + " b " + y.sign + " c"
					switch {
					case i == j && i == 2:
						fails(t, s, api.ErrForm, 5+n)
					case i >= j:
						isRead(t, s, "(a "+x.sign+" b) "+y.sign+" c", y.op)
					default:
						isRead(t, s, "a "+x.sign+" (b "+y.sign+" c)", x.op)
					}
				}
			}
		}
	}
	isRead(t, "a || b && c == d + e * f", "a || (b && (c == (d + (e * f))))", api.ExOr)
	isRead(t, "a * b + c == d && e || f", "((((a * b) + c) == d) && e) || f", api.ExOr)
	isRead(t, "a - b - c - d", "((a - b) - c) - d", api.ExSub)
	isRead(t, "a == b && c == d && e != f", "((a == b) && (c == d)) && (e != f)", api.ExAnd)
	isRead(t, "a < b + c * d - e", "a < ((b + (c * d)) - e)", api.ExLt)
	isRead(t, "a + b < c * d - e", "(a + b) < ((c * d) - e)", api.ExLt)
	isRead(t, "(a == b) == c", "((a == b)) == (c)", api.ExEq)
	isRead(t, "a == (b == c)", "a == ((b == c))", api.ExEq)
	isRead(t, "-a * b", "(-a) * b", api.ExMul)
	isRead(t, "a - -b", "a - (-b)", api.ExSub)
	isRead(t, "a--b", "a - (-b)", api.ExSub)
	isRead(t, "!a == b", "(!a) == b", api.ExEq)
	isRead(t, "a && b ? c : d || e", "(a && b) ? c : (d || e)", api.ExCond)
	fails(t, "a == b == c", api.ErrForm, 7)
	fails(t, "a < b > c", api.ErrForm, 6)
	fails(t, "a <= b != c", api.ErrForm, 7)
	fails(t, "a == b + c == d", api.ErrForm, 11)
	fails(t, "a && b == c < d", api.ErrForm, 12)
	fails(t, "a == b && c == d == e", api.ErrForm, 17)
	fails(t, "a == b == c && d", api.ErrForm, 7)
	fails(t, "f(a < b < c)", api.ErrForm, 8)
	fails(t, "a ? b == c == d : e", api.ErrForm, 11)
}

// isRead holds that two texts are read as the same tree, of a kind.
func isRead(t *testing.T, s, other string, op int) {
	t.Helper()
	a, b := reads(t, s), reads(t, other)
	if a.Op != op || !Same(a, b) {
		t.Errorf("%q is read as %s, %q as %s", s, brief(a), other, brief(b))
	}
}

// P8.1: the first token that can't stand where it does; also the end.
func TestFaults(t *testing.T) {
	for _, x := range []struct {
		s  string
		at int
	}{
		{"", 0}, {" \n # c\n\t", 8}, {"()", 1}, {"(a", 2}, {"(a b)", 3}, {"(a, b)", 2}, {"a)", 1}, {"(a))", 3}, {")", 0}, {"]", 0}, {"}", 0},
		{"a b", 2}, {"1 2", 2}, {"1 a", 2}, {`"a" "b"`, 4}, {"a 1", 2}, {"null null", 5}, {"true(", 4}, {"null()", 4}, {"1()", 1}, {"(f)()", 3}, {"a.b()", 3}, {"f()()", 3}, {`"f"()`, 3},
		{"in", 0}, {"if", 0}, {"for", 0}, {"for()", 0}, {"a + in", 4}, {"f(if)", 2}, {"[in]", 1}, {"a[for]", 2}, {"(for)", 1},
		{"=", 0}, {"a = b", 2}, {"a => b", 2}, {",", 0}, {"a,", 1}, {":", 0}, {"a : b", 2}, {"?", 0}, {".", 0}, {".a", 0}, {"=>", 0},
		{"+", 0}, {"+a", 0}, {"*a", 0}, {"a +", 3}, {"a + * b", 4}, {"a ||", 4}, {"a && && b", 5}, {"!", 1}, {"-", 1}, {"a !", 2}, {"a ! b", 2}, {"a != = b", 5}, {"- )", 2},
		{"a ? b", 5}, {"a ?", 3}, {"a ? : b", 4}, {"a ? b :", 7}, {"a ? b : )", 8}, {"a ? b, c", 5}, {"a ? b : c : d", 10}, {"a ? b ? c : d", 13}, {"? a : b", 0}, {"a ? b c", 6},
		{"a.", 2}, {"a.1", 2}, {`a."b"`, 2}, {"a..b", 2}, {"a.[0]", 2}, {"a.(b)", 2}, {"1.0", 2}, {"a.b c", 4},
		{"a[", 2}, {"a[]", 2}, {"a[0", 3}, {"a[0,]", 3}, {"a[0)", 3}, {"a[0]]", 4}, {"a[1 2]", 4},
		{"f(", 2}, {"f(,)", 2}, {"f(a", 3}, {"f(a,", 4}, {"f(a,,)", 4}, {"f(a,,b)", 4}, {"f(a b)", 4}, {"f(a]", 3}, {"f(a = 1)", 4}, {"f(a: 1)", 3},
		{"[", 1}, {"[,]", 1}, {"[a", 2}, {"[a,", 3}, {"[a,,]", 3}, {"[a b]", 3}, {"[a)", 2}, {"[a}", 2}, {"[a = 1]", 3}, {"[a : 1]", 3},
		{"{", 1}, {"{,}", 1}, {"{a}", 2}, {"{a", 2}, {"{a = }", 5}, {"{a =", 4}, {"{a: 1", 5}, {"{a: 1,", 6}, {"{a: 1,,}", 6}, {"{a: 1 b: 2}", 6}, {"{a = 1]", 6}, {"{1 = 2}", 1}, {"{(a) = 2}", 1}, {"{a.b = 1}", 2}, {"{a => 1}", 3}, {"{a == 1}", 3}, {"{a + b = 1}", 3}, {`{"a" 1}`, 5}, {`{"a"}`, 4}, {"{{} = 1}", 1}, {"{a, b}", 2}, {"{true}", 5}, {"{in in}", 4},
		{"[for]", 4}, {"[for", 4}, {"[for a]", 6}, {"[for 1 in a : a]", 5}, {"[for in in a : a]", 5}, {"[for if in a : a]", 5}, {"[for true in a : a]", 5}, {"[for for in a : a]", 5}, {`[for "a" in a : a]`, 5}, {"[for = 1]", 5}, {"[for : 1]", 5}, {"[for, a]", 4}, {"[for.a]", 4},
		{"[for a, in a : a]", 8}, {"[for a, null in a : a]", 8}, {"[for a, b, c in a : a]", 9}, {"[for a, b", 9}, {"[for a b in a : a]", 7}, {"[for a = b : a]", 7}, {"[for a in : a]", 10}, {"[for a in b]", 11}, {"[for a in b, a]", 11}, {"[for a in b => a]", 12}, {"[for a in b = a]", 12}, {"[for a in b : ]", 14}, {"[for a in b : a", 15}, {"[for a in b : a,]", 15}, {"[for a in b : a => c]", 16}, {"[for a in b : a if]", 18}, {"[for a in b : a if c", 20}, {"[for a in b : a if c if d]", 21}, {"[for a in b : a if c, d]", 20}, {"[for a in b : a}", 15}, {"[for a in b if c : a]", 12}, {"[a, for b in c : d]", 4}, {"[for a in b : a ? c]", 19},
		{"{for}", 4}, {"{for", 4}, {"{for, a}", 4}, {"{for for in a : a => a}", 5}, {"{for a = 1}", 7}, {"{for a: 1}", 6}, {"{for = 1, for a in b : a => a}", 14}, {"{a = 1, for b in c : b => b}", 12}, {"{for a in b : a}", 15}, {"{for a in b : a = c}", 16}, {"{for a in b : a : c}", 16}, {"{for a in b : a c}", 16}, {"{for a in b : => c}", 14}, {"{for a in b : a => }", 19}, {"{for a in b : a => c, d => e}", 20}, {"{for a in b : a => c]", 20}, {"{for a in b : a => c if }", 24}, {"{for a in b : a => c if d => e}", 26}, {"{for a in b : a => c => d}", 21}, {"{for a, b, c in d : a => a}", 9}, {"{for.a = 1}", 4}, {"{for => 1}", 5}, {`{for "a" in b : a => a}`, 5},
	} {
		fails(t, x.s, api.ErrForm, x.at)
		fails(t, "\n "+x.s, api.ErrForm, x.at+2)
	}
	fails(t, "\n\n a\n b", api.ErrForm, 6)
}

// P8.1: layer 7's Diags go ahead of all others.
func TestFaultsOfTokens(t *testing.T) {
	fails(t, "a &", api.ErrMark, 2)
	fails(t, ") &", api.ErrMark, 2)
	fails(t, "a b 01", api.ErrForm, 4)
	fails(t, "1a", api.ErrForm, 0)
	fails(t, "\n -9223372036854775808", api.ErrOver, 3)
	fails(t, `a "b`, api.ErrForm, 2)
	fails(t, `"\x"`, api.ErrForm, 0)
	fails(t, "a b "+strings.Repeat("c", 25), api.ErrLong, 4)
	fails(t, `a "`+strings.Repeat("c", 1025)+`"`, api.ErrLong, 2)
	fails(t, strings.Repeat("(", api.MaxText+1), api.ErrLong, 0)
	fails(t, strings.Repeat("-", 40)+"a &", api.ErrMark, 42)
	fails(t, `"${&}" &`, api.ErrMark, 7)
	has(t, strings.Repeat(" ", api.MaxText-1)+"a", fmt.Sprintf("name:a@%d", api.MaxText-1))
	long := strings.Repeat("c", 1024)
	has(t, `"`+long+`"`, `"`+long+`"@0`)
}

// P8.1: strings in which expressions stand.
func TestTexts(t *testing.T) {
	for _, x := range [][2]string{
		{`"${a}"`, `text@0(name:a@3)`},
		{`"x${a}"`, `text@0("x"@0 name:a@4)`},
		{`"${a}x"`, `text@0(name:a@3 "x"@0)`},
		{`"${a}${b}"`, `text@0(name:a@3 name:b@7)`},
		{` "a\n${ b + 1 }c\$${d.e}\\"`, `text@1("a\n"@1 add@10(name:b@8 1@12) "c$"@1 attr:e@21(name:d@20) "\\"@1)`},
		{`"${1}${true}${null}"`, `text@0(1@3 true@7 null@14)`},
		{`"${a ? b : c}"`, `text@0(cond@5(name:a@3 name:b@7 name:c@11))`},
		{`"${f(a, [b], c[0])}"`, `text@0(call:f@3(name:a@5 list@8(name:b@9) index@14(name:c@13 0@15)))`},
		{`"${[for v in m : v if v]}"`, `text@0(forlist:v@3(name:m@13 name:v@17 name:v@22))`},
		{`"${(a)}"`, `text@0(name:a@4)`},
		{`"${-a}" + "${a # b}"`, `add@8(text@0(neg@3(name:a@4)) text@10(name:a@13))`},
		{"a +\n\t\"b${ c }\"", "add@2(name:a@0 text@5(\"b\"@5 name:c@10))"},
		{`["${a}", {"${b}": "${c}"}]`, `list@0(text@1(name:a@4) map@9(text@10(name:b@13) text@18(name:c@21)))`},
		{`a["${b}"]."c${d}"`, ""},
	} {
		if x[1] == "" {
			fails(t, x[0], api.ErrForm, 10)
			continue
		}
		has(t, x[0], x[1])
		has(t, strings.Repeat("\n", 3)+x[0], moved(x[1], 3))
	}
}

// moved is a tree's text with all places so much greater.
func moved(s string, by int) string {
	var b strings.Builder
	for s != "" {
		head, tail, ok := strings.Cut(s, "@")
		b.WriteString(head)
		if !ok {
			break
		}
		var n int
		fmt.Sscan(tail, &n)
		fmt.Fprintf(&b, "@%d", n+by)
		s = strings.TrimLeft(tail, "0123456789")
	}
	return b.String()
}

// P8.1: what is wrong in a string's expressions is told when the string is come to, at its place in the whole text.
func TestFaultsInTexts(t *testing.T) {
	for _, x := range []struct {
		s  string
		e  api.Errno
		at int
	}{
		{`"${}"`, api.ErrForm, 3},
		{`"${ }"`, api.ErrForm, 4},
		{`"x${a b}"`, api.ErrForm, 6},
		{`"x${a b}" c`, api.ErrForm, 6},
		{`"${a +}"`, api.ErrForm, 6},
		{`"${(a}"`, api.ErrForm, 5},
		{`"${a)}"`, api.ErrForm, 4},
		{`"${a = b}"`, api.ErrForm, 5},
		{`"${if}"`, api.ErrForm, 3},
		{`"${# a}"`, api.ErrForm, 6},
		{`"${&}"`, api.ErrMark, 3},
		{`"a${b $ c}"`, api.ErrMark, 6},
		{`"${A}"`, api.ErrMark, 3},
		{`"${b \n}"`, api.ErrMark, 5},
		{`"${01}"`, api.ErrForm, 3},
		{`"${1 + 2a}"`, api.ErrForm, 7},
		{`"${9223372036854775808}"`, api.ErrOver, 3},
		{`"${ ` + strings.Repeat("a", 25) + `}"`, api.ErrLong, 4},
		{`"${a b &}"`, api.ErrMark, 7},
		{`"${a b}${&}"`, api.ErrForm, 5},
		{`"${a}${b &}${}"`, api.ErrMark, 9},
		{`"${}" "${&}"`, api.ErrForm, 3},
		{`"${a}" "${&}"`, api.ErrForm, 7},
		{`a "${&}"`, api.ErrForm, 2},
		{`"${&}" )`, api.ErrMark, 3},
		{`) "${&}"`, api.ErrForm, 0},
		{`f("${}", )`, api.ErrForm, 5},
		{`f(, "${&}")`, api.ErrForm, 2},
		{`{"${}" 1}`, api.ErrForm, 4},
		{`{"${a}" 1}`, api.ErrForm, 8},
		{`{a "${&}"}`, api.ErrForm, 3},
		{`a."${&}"`, api.ErrForm, 2},
		{`[for "${&}" in a : a]`, api.ErrForm, 5},
		{`a ? "${&}" c`, api.ErrMark, 7},
		{"a +\n \"${b}\" +\n\n   \"x${c\td}\"", api.ErrForm, 24},
		{"\n\n\t\"${a}${b &}\"", api.ErrMark, 12},
	} {
		fails(t, x.s, x.e, x.at)
		fails(t, "\n\t "+x.s, x.e, x.at+3)
	}
}

// nests are expressions whose depth is one more than that of what stands between their beginning and their end.
var nests = [][2]string{
	{"-", ""}, {"!", ""}, {"[", "]"}, {"[0, ", "]"}, {"f(", ")"}, {"{a = ", "}"}, {"(", ").a"}, {"(", ")[0]"}, {"a[", "]"},
	{"a + (", ")"}, {"(", ") + a"}, {"a ? b : ", ""}, {"a ? ", " : b"}, {"(", ") ? a : b"}, {"[for a in ", " : a]"}, {"[for a in b : ", "]"}, {"[for a in b : c if ", "]"},
	{"{for a in ", " : a => a}"}, {"{for a in b : ", " => a}"}, {"{for a in b : a => ", "}"}, {"{for a in b : c => d if ", "}"}, {"((", ")).a"},
}

func nest(x [2]string, n int, core string) string {
	return strings.Repeat(x[0], n) + core + strings.Repeat(x[1], n)
}

// P8.1: the greatest depth, and one more, of whatever nests; it is told at the first token.
func TestDeep(t *testing.T) {
	for _, x := range nests {
		e := reads(t, nest(x, api.MaxNest-1, "a"))
		if Depth(e) != api.MaxNest {
			t.Errorf("%q: a depth of %d", x, Depth(e))
		}
		fails(t, nest(x, api.MaxNest, "a"), api.ErrDeep, 0)
		fails(t, " \n "+nest(x, api.MaxNest+10, "a"), api.ErrDeep, 3)
		fails(t, nest(x, api.MaxNest+10, ","), api.ErrForm, len(nest([2]string{x[0]}, api.MaxNest+10, "")))
		fails(t, nest(x, api.MaxNest+10, "a")+" =", api.ErrForm, len(nest(x, api.MaxNest+10, "a"))+1)
	}
	chain := strings.Repeat("a - ", api.MaxNest-1) + "a"
	if e := reads(t, chain); Depth(e) != api.MaxNest {
		t.Error(Depth(e))
	}
	fails(t, "a -"+chain, api.ErrDeep, 0)
	fails(t, "a -"+chain+"+", api.ErrForm, len(chain)+4)
	fails(t, "a -"+chain+" b", api.ErrForm, len(chain)+4)
	fails(t, "a"+strings.Repeat(".b", api.MaxNest), api.ErrDeep, 0)
	reads(t, "a"+strings.Repeat(".b", api.MaxNest-1))
	fails(t, "a"+strings.Repeat("[0]", api.MaxNest), api.ErrDeep, 0)
	fails(t, "(("+strings.Repeat("!", api.MaxNest)+"a))", api.ErrDeep, 0)
	// Brackets are no trees.
	has(t, strings.Repeat("(", 16383)+"a"+strings.Repeat(")", 16383), "name:a@16383")
	fails(t, strings.Repeat("(", 32768), api.ErrForm, 32768)
	fails(t, strings.Repeat("-", 32767)+"a", api.ErrDeep, 0)
	fails(t, strings.Repeat("-", 32768), api.ErrForm, 32768)
	fails(t, strings.Repeat("[", 16384)+strings.Repeat("]", 16384), api.ErrDeep, 0)
}

// P8.1: what stands in a string is deep with what is around it.
func TestDeepInTexts(t *testing.T) {
	for _, x := range nests {
		if strings.Contains(x[0], "{") {
			continue
		}
		text := func(n int) string { return `"` + `b${` + nest(x, n, "a") + `}"` }
		if e := reads(t, text(api.MaxNest-2)); Depth(e) != api.MaxNest {
			t.Errorf("%q: a depth of %d", x, Depth(e))
		}
		fails(t, text(api.MaxNest-1), api.ErrDeep, 0)
		fails(t, text(api.MaxNest), api.ErrDeep, 0)
		fails(t, "\n"+text(api.MaxNest+1), api.ErrDeep, 1)
		fails(t, text(api.MaxNest+1)+" b", api.ErrForm, len(text(api.MaxNest+1))+1)
		reads(t, "-"+text(api.MaxNest-3))
		fails(t, "-"+text(api.MaxNest-2), api.ErrDeep, 0)
		fails(t, "{"+text(api.MaxNest-2)+": 1}", api.ErrDeep, 0)
		fails(t, "{ a ="+text(api.MaxNest-2)+"}", api.ErrDeep, 0)
	}
}

// read holds what Read answers at a place in s's tokens.
func read(t *testing.T, s string, from int, want string, wantNext int, wantDiag api.Diag) {
	t.Helper()
	l, d := lex.All(s)
	if d != (api.Diag{}) {
		t.Fatal(s, d)
	}
	e, next, d := Read(l, from)
	if d != wantDiag || next != wantNext || d.Code == api.OK && brief(e) != want || d.Code != api.OK && !isZero(e) {
		t.Errorf("Read(%.80q, %d) = %s, %d, %v; want %s, %d, %v", s, from, brief(e), next, d, want, wantNext, wantDiag)
	}
}

// P8.1: the longest expression that stands at a place, and the place behind it.
func TestRead(t *testing.T) {
	const s = `a = b + 1 c { d = "x${e}" } [f].g h (i) - j == k == l`
	for _, x := range []struct {
		from int
		want string
		next int
	}{
		{0, "name:a@0", 1},
		{2, "add@6(name:b@4 1@8)", 5},
		{3, "", 0},
		{4, "1@8", 5},
		{5, "name:c@10", 6},
		{6, `attr:g@31(index@28(map@12("d"@14 text@18("x"@18 name:e@22)) name:f@29))`, 16},
		{7, "name:d@14", 8},
		{9, `text@18("x"@18 name:e@22)`, 10},
		{11, "attr:g@31(list@28(name:f@29))", 16},
		{12, "name:f@29", 13},
		{16, "eq@44(sub@40(call:h@34(name:i@37) name:j@42) name:k@47)", 24},
		{17, "eq@44(sub@40(name:i@37 name:j@42) name:k@47)", 24},
		{20, "eq@44(neg@40(name:j@42) name:k@47)", 24},
		{23, "eq@49(name:k@47 name:l@52)", 26},
		{25, "name:l@52", 26},
	} {
		if x.want == "" {
			read(t, s, x.from, "", 0, api.Diag{Code: api.ErrForm, Pos: lex.At(s, 6)})
			continue
		}
		read(t, s, x.from, x.want, x.next, api.Diag{})
	}
	diag := func(s string, e api.Errno, at int) api.Diag { return api.Diag{Code: e, Pos: lex.At(s, at)} }
	form := func(s string, from, at int) {
		t.Helper()
		read(t, s, from, "", 0, diag(s, api.ErrForm, at))
	}
	form(s, 26, 53)
	form(s, 22, 44)
	form(s, 24, 49)
	form(s, 1, 2)
	form(s, 10, 26)
	form("x = a ?\n y = 1", 2, 11)
	form("x = a ? b\n y = 1", 2, 11)
	form("x = a ? b }", 2, 10)
	form("x = a +\n}", 2, 8)
	form("x = f(a\ny = 1", 2, 8)
	form("x = [a\n}", 2, 7)
	form("x = a.\n 1", 2, 8)
	form("x = a[1", 2, 7)
	form("x = \n", 2, 5)
	form("x = \"a${b c}\" d", 2, 10)
	form("x = in", 2, 4)
	read(t, "true (a)", 0, "true@0", 1, api.Diag{})
	read(t, "a true", 0, "name:a@0", 1, api.Diag{})
	read(t, "a \"${&}\"", 0, "name:a@0", 1, api.Diag{})
	read(t, "a \"${&}\"", 1, "", 0, diag("a \"${&}\"", api.ErrMark, 5))
	read(t, "a\nfor b", 0, "name:a@0", 1, api.Diag{})
	read(t, "a\n-b\n!c", 0, "sub@2(name:a@0 name:b@3)", 3, api.Diag{})
	read(t, "a = b\n[c]", 2, "index@6(name:b@4 name:c@7)", 6, api.Diag{})
	read(t, "a, b", 0, "name:a@0", 1, api.Diag{})
	read(t, "{for = 1}", 1, "", 0, diag("{for = 1}", api.ErrForm, 1))
	deep := "x =\n " + strings.Repeat("-", api.MaxNest) + "a"
	read(t, deep+" b", 2, "", 0, diag(deep, api.ErrDeep, 5))
	read(t, deep+" b &&", 2, "", 0, diag(deep, api.ErrDeep, 5))
	form(deep+" *)", 2, len(deep)+2)
	l, _ := lex.All(deep)
	if e, next, d := Read(l, 3); Depth(e) != api.MaxNest || next != len(l)-1 || d != (api.Diag{}) {
		t.Error(Depth(e), next, d)
	}
}

// R1: places at which no token stands, and tokens that are of no text.
func TestReadOfAnything(t *testing.T) {
	l, _ := lex.All("a + b")
	nothing := func(l []api.Tok, at int) {
		t.Helper()
		if e, next, d := Read(l, at); !isZero(e) || next != 0 || d != (api.Diag{Code: api.ErrForm}) {
			t.Error(brief(e), next, d)
		}
	}
	for _, at := range []int{-1, 4, 5, math.MinInt, math.MaxInt, math.MaxInt - 1} {
		nothing(l, at)
		nothing(nil, at)
		nothing([]api.Tok{}, at)
	}
	nothing(nil, 0)
	nothing(l[:2], 0)
	if e, next, d := Read(l[:1], 0); brief(e) != "name:a@0" || next != 1 || d != (api.Diag{}) {
		t.Error(brief(e), next, d)
	}
	if e, next, d := Read(l[:3], 0); brief(e) != "add@2(name:a@0 name:b@4)" || next != 3 || d != (api.Diag{}) {
		t.Error(brief(e), next, d)
	}
	odd := []api.Tok{
		{}, {Kind: -1}, {Kind: 99, S: "+"}, {Kind: math.MinInt, S: "a"}, {Kind: api.TokName}, {Kind: api.TokName, S: "("}, {Kind: api.TokName, S: "A"}, {Kind: api.TokSign}, {Kind: api.TokSign, S: "in"}, {Kind: api.TokSign, S: "for"},
		{Kind: api.TokInt, N: math.MinInt64}, {Kind: api.TokStr}, {Kind: api.TokStr, S: "in", Parts: []api.Part{{}, {S: "a"}, {S: "b"}}}, {Kind: api.TokStr, Parts: []api.Part{{Expr: true}}},
		{Kind: api.TokStr, Parts: []api.Part{{Expr: true, S: "a\n + \"b${c}\"", Pos: api.Pos{At: math.MaxInt, Line: math.MaxInt, Col: math.MinInt}}}},
		{Kind: api.TokStr, Parts: []api.Part{{Expr: true, S: strings.Repeat("a", api.MaxText+1)}}}, {Kind: api.TokStr, Parts: []api.Part{{S: strings.Repeat("a", api.MaxStr+1)}}},
		{Kind: api.TokSign, S: "-"}, {Kind: api.TokSign, S: "("}, {Kind: api.TokSign, S: "["}, {Kind: api.TokSign, S: "{"}, {Kind: api.TokSign, S: "."}, {Kind: api.TokSign, S: ":"}, {Kind: api.TokSign, S: "="},
		{Kind: api.TokName, S: "for"}, {Kind: api.TokName, S: "in"}, {Kind: api.TokName, S: "a", Pos: api.Pos{At: -1, Line: -1, Col: math.MinInt}},
	}
	for _, a := range odd {
		for _, b := range odd {
			for _, c := range odd {
				row := []api.Tok{a, b, c}
				for at := -1; at < 4; at++ {
					e, next, d := Read(row, at)
					if d == (api.Diag{}) && (next <= at || next > 3) || d != (api.Diag{}) && (next != 0 || !isZero(e)) {
						t.Fatal(row, at, brief(e), next, d)
					}
				}
			}
		}
	}
}

// P8.1: of tokens that are made by hand the kind counts, whatever else they have; and places go on from that of a string's expression.
func TestTokensByHand(t *testing.T) {
	name := func(s string) api.Tok { return api.Tok{Kind: api.TokName, S: s} }
	sign := func(s string) api.Tok { return api.Tok{Kind: api.TokSign, S: s} }
	for _, x := range []struct {
		l    []api.Tok
		want string
		next int
	}{
		{[]api.Tok{name("a"), name("+"), name("b")}, "name:a@0", 1},
		{[]api.Tok{name("a"), {Kind: api.TokStr, S: "+"}, name("b")}, "name:a@0", 1},
		{[]api.Tok{name("a"), name("?"), name("b"), name(":"), name("c")}, "name:a@0", 1},
		{[]api.Tok{name("("), name("a"), name(")")}, "name:(@0", 1},
		{[]api.Tok{sign("{"), name("for"), {Kind: api.TokStr, S: "="}}, "", 0},
		{[]api.Tok{sign("["), name("for"), name("a"), sign("in"), name("b"), sign(":"), name("a"), sign("]")}, "", 0},
		{[]api.Tok{{Kind: api.TokStr, S: "a"}}, `""@0`, 1},
		{[]api.Tok{{Kind: api.TokStr, Parts: []api.Part{{S: "a"}, {S: "b"}}}}, `"ab"@0`, 1},
	} {
		e, next, d := Read(x.l, 0)
		if next != x.next || x.next > 0 && brief(e) != x.want || (d.Code == api.OK) != (x.next > 0) {
			t.Errorf("Read(%v) = %s, %d, %v; want %s, %d", x.l, brief(e), next, d, x.want, x.next)
		}
	}
	part := func(s string) []api.Tok {
		return []api.Tok{{Kind: api.TokStr, Parts: []api.Part{{Expr: true, S: s, Pos: api.Pos{At: 100, Line: 7, Col: 30}}}}}
	}
	e, _, _ := Read(part("a +\n b + \"x${ c}\""), 0)
	if p := e.L[0].Pos; p != (api.Pos{At: 107, Line: 8, Col: 4}) {
		t.Error(p)
	}
	if p := e.L[0].L[0].L[0].Pos; p != (api.Pos{At: 100, Line: 7, Col: 30}) {
		t.Error(p)
	}
	if p := e.L[0].L[1].L[1].Pos; p != (api.Pos{At: 114, Line: 8, Col: 11}) {
		t.Error(p)
	}
	if _, _, d := Read(part("a \"${b &}\""), 0); d != (api.Diag{Code: api.ErrForm, Pos: api.Pos{At: 102, Line: 7, Col: 32}}) {
		t.Error(d)
	}
	if _, _, d := Read(part("\"${b &}\""), 0); d != (api.Diag{Code: api.ErrMark, Pos: api.Pos{At: 105, Line: 7, Col: 35}}) {
		t.Error(d)
	}
}

// R1: tokens of 2^16 nested parts.
func TestNestedTokens(t *testing.T) {
	for _, x := range [][2]string{{"(", ")"}, {"-", ""}, {"[", "]"}, {"{for a in ", " : a => a}"}, {"a || a && a < a + a * -(", ")"}, {"a || a && a < a + a * {b = [for a in ", " : a]}"}} {
		head, _ := lex.All(x[0])
		tail, _ := lex.All(x[1])
		var l []api.Tok
		for range 1 << 16 {
			l = append(l, head[:len(head)-1]...)
		}
		l = append(l, api.Tok{Kind: api.TokName, S: "a"})
		for range 1 << 16 {
			l = append(l, tail[:len(tail)-1]...)
		}
		want := api.ErrDeep
		if x[0] == "(" && x[1] == ")" {
			want = api.OK
		}
		if _, _, d := Read(l, 0); d.Code != want {
			t.Errorf("%q: %v", x, d)
		}
	}
}

// P8.2: depths of any tree.
func TestDepth(t *testing.T) {
	leaf := api.Expr{Op: api.ExLit, V: value.List(value.List())}
	one := func(l ...api.Expr) api.Expr { return api.Expr{Op: 77, L: l} }
	for _, x := range []struct {
		e    api.Expr
		want int
	}{
		{api.Expr{}, 1}, {leaf, 1}, {api.Expr{L: []api.Expr{}}, 1}, {api.Expr{Op: -1, S: "a", S2: "b"}, 1},
		{one(leaf), 2}, {one(leaf, leaf), 2}, {one(one(leaf), leaf), 3}, {one(leaf, one(leaf)), 3}, {one(leaf, one(one(leaf), leaf), leaf), 4}, {one(one(one(one()))), 4},
	} {
		if Depth(x.e) != x.want {
			t.Errorf("Depth(%v) = %d; want %d", x.e, Depth(x.e), x.want)
		}
	}
	for s, want := range map[string]int{"1": 1, "a": 1, "(a)": 1, "a.b": 2, "f()": 1, "[]": 1, "[1, [2]]": 3, "{a = 1}": 2, "a ? b : c + d": 3, `"x"`: 1, `"${a}"`: 2, "[for a in b : c.d.e]": 4, "a + b * c": 3, "a * b + c * -d": 4} {
		if e := reads(t, s); Depth(e) != want {
			t.Errorf("Depth(%s) = %d; want %d", s, Depth(e), want)
		}
	}
}

// P8.2: trees that differ in one field; places are no matter, nothing is the same everywhere.
func TestSame(t *testing.T) {
	marked := value.Mark(value.Int(1))
	part := api.Expr{Op: 1}
	l := []api.Expr{
		{}, {Op: 1}, {Op: -1}, {S: "a"}, {S: "b"}, {S2: "a"}, {S2: "b"}, {V: value.Int(1)}, {V: value.Int(2)}, {V: marked}, {V: value.Bool(true)}, {V: api.Value{Secret: true}},
		{V: value.List(value.Int(1))}, {V: value.List(marked)}, {V: value.List()}, {V: value.Unknown(api.Type{Kind: api.Int})}, {V: api.Value{Keys: []string{"a"}}},
		{L: []api.Expr{{}}}, {L: []api.Expr{{}, {}}}, {L: []api.Expr{part}}, {L: []api.Expr{part, {}}}, {L: []api.Expr{{}, part}}, {L: []api.Expr{{L: []api.Expr{{}}}}},
		{L: []api.Expr{{S: "a"}}}, {L: []api.Expr{{S2: "a"}}}, {L: []api.Expr{{V: marked}}},
		{Op: api.ExCall, S: "f", S2: "g", V: value.Int(1), L: []api.Expr{part}},
	}
	for i, a := range l {
		for j, b := range l {
			b.Pos = api.Pos{At: j, Line: 7, Col: -1}
			b.L = append(make([]api.Expr, 0, 8), b.L...)
			for k := range b.L {
				b.L[k].Pos.Line = 5
			}
			if Same(a, b) != (i == j) || Same(b, a) != (i == j) {
				t.Errorf("Same(%v, %v) = %v", a, b, Same(a, b))
			}
		}
	}
	if a, b := reads(t, " [ a,{b:1}, (c)]"), reads(t, "[a,\n{\"b\" = 1,}, c,]"); !Same(a, b) {
		t.Error(brief(a), brief(b))
	}
	deep := func() api.Expr {
		e := api.Expr{Op: 1}
		for range 1 << 16 {
			e = api.Expr{Op: 2, L: []api.Expr{e}}
		}
		return e
	}
	if a := deep(); !Same(a, deep()) || Depth(a) != 1<<16+1 {
		t.Error("deep trees")
	}
}

// P8.2: the words that are reserved, and others.
func TestReserved(t *testing.T) {
	for _, s := range []string{"true", "false", "null", "for", "in", "if"} {
		if !Reserved(s) {
			t.Error(s)
		}
		for _, other := range []string{s + "x", "_" + s, s[1:], s[:len(s)-1], strings.ToUpper(s), s + " ", " " + s, s + "\x00"} {
			if Reserved(other) {
				t.Error(other)
			}
		}
	}
	for _, s := range []string{"", "a", "nil", "else", "and", "not", "each", "count", "var", "local"} {
		if Reserved(s) {
			t.Error(s)
		}
	}
}

// R4, R6: nothing that is handed in is changed, and what is answered is new each time.
func TestNewMemory(t *testing.T) {
	const s = `f(a, "b${c}", [d], {e = 1}, [for v in m : v if x], -g ? h : i[0].j)`
	l, _ := lex.All(s)
	room := append(make([]api.Tok, 0, len(l)+4), l...)
	first, next, d := Read(room, 0)
	if d != (api.Diag{}) || next != len(l)-1 {
		t.Fatal(next, d)
	}
	for i, tok := range room[:cap(room)] {
		if i < len(l) && !lex.Same(tok, l[i]) || i >= len(l) && !lex.Same(tok, api.Tok{}) {
			t.Errorf("the token %d was changed", i)
		}
	}
	want := brief(first)
	again, _, _ := Read(room, 0)
	for i := range room {
		for j := range room[i].Parts {
			room[i].Parts[j] = api.Part{S: "other"}
		}
		room[i] = api.Tok{Kind: 99, S: "other"}
	}
	if brief(first) != want {
		t.Error("what was answered hangs on what was handed in")
	}
	spoil(&first)
	if brief(again) != want {
		t.Error("two answers share memory")
	}
	for i := range again.L {
		spoil(&again.L[i])
		third, _ := Parse(s)
		for j := i + 1; j < len(again.L); j++ {
			if !Same(again.L[j], third.L[j]) {
				t.Errorf("the part %d hangs on the part %d", j, i)
			}
		}
	}
}

// spoil writes over all of e's memory, and the room behind its lists.
func spoil(e *api.Expr) {
	for i := range e.L {
		spoil(&e.L[i])
	}
	whole := e.L[:cap(e.L)]
	for i := range whole {
		whole[i] = api.Expr{Op: 1, S: "other"}
	}
	e.Op, e.S, e.V = 2, "other", value.Str("other")
}
