package conf

import (
	"fmt"
	"math/rand"
	"strings"
	"testing"

	"surety/api"
	"surety/expr"
	"surety/lex"
	"surety/value"
)

// told is an expression as a text: of a name or a number itself, of a text its Quote, else its kind; its place; its parts.
func told(e api.Expr) string {
	s := fmt.Sprint("#", e.Op)
	switch {
	case e.Op == api.ExName:
		s = e.S
	case e.Op == api.ExLit && e.V.Kind == api.VInt:
		s = fmt.Sprint(e.V.I)
	case e.Op == api.ExLit && e.V.Kind == api.VStr:
		s = lex.Quote(e.V.S)
	case e.S != "":
		s += ":" + e.S
	}
	s += fmt.Sprint("@", e.Pos.At)
	if len(e.L) == 0 {
		return s
	}
	var parts []string
	for _, p := range e.L {
		parts = append(parts, told(p))
	}
	return s + "(" + strings.Join(parts, " ") + ")"
}

// brief is items as a text: names, labels, expressions, places.
func brief(l []api.Item) string {
	var rows []string
	for _, x := range l {
		s := fmt.Sprint(x.Name, "@", x.Pos.At)
		for _, label := range x.Labels {
			s += " " + lex.Quote(label)
		}
		if x.Block {
			s += " {" + brief(x.Items) + "}"
		} else {
			s += " = " + told(x.E)
		}
		rows = append(rows, s)
	}
	return strings.Join(rows, "; ")
}

// placed holds that each place in items is one of s, with its line and byte in it, that a name stands at an item's, and that nothing else than their kind names is there.
func placed(t *testing.T, s string, l []api.Item) {
	t.Helper()
	for _, x := range l {
		if x.Pos != lex.At(s, x.Pos.At) || !strings.HasPrefix(s[x.Pos.At:], x.Name) {
			t.Errorf("%.80q: %s stands at %v", s, x.Name, x.Pos)
		}
		if x.Block && !isZero(x.E) || !x.Block && (len(x.Labels) > 0 || len(x.Items) > 0) {
			t.Errorf("%.80q: %s is no plain item", s, x.Name)
		}
		if !x.Block {
			placedExpr(t, s, x.E)
		}
		placed(t, s, x.Items)
	}
}

func placedExpr(t *testing.T, s string, e api.Expr) {
	t.Helper()
	if e.Pos != lex.At(s, e.Pos.At) {
		t.Errorf("%.80q: a place %v; want %v", s, e.Pos, lex.At(s, e.Pos.At))
	}
	for _, p := range e.L {
		placedExpr(t, s, p)
	}
}

func isZero(e api.Expr) bool { return expr.Same(e, api.Expr{}) && e.Pos == (api.Pos{}) }

// has holds that s is read as items that are told so.
func has(t *testing.T, s, want string) {
	t.Helper()
	l, d := Read(s)
	if d != (api.Diag{}) || brief(l) != want {
		t.Errorf("Read(%q) = %s, %v; want %s", s, brief(l), d, want)
		return
	}
	placed(t, s, l)
}

// fails holds that this is what is wrong in s.
func fails(t *testing.T, s string, code api.Errno, at int) {
	t.Helper()
	l, d := Read(s)
	if d != (api.Diag{Code: code, Pos: lex.At(s, at)}) || len(l) != 0 {
		t.Errorf("Read(%q) = %.80s, %v; want %d at %d", s, brief(l), d, code, at)
	}
}

func reads(t *testing.T, s string) []api.Item {
	t.Helper()
	l, d := Read(s)
	if d != (api.Diag{}) {
		t.Errorf("Read(%q): %v", s, d)
	}
	placed(t, s, l)
	return l
}

// P9.1: attributes and blocks, and their places.
func TestItems(t *testing.T) {
	for _, x := range [][2]string{
		{"", ""},
		{" \n\t# a = 1\n", ""},
		{"a = 1", "a@0 = 1@4"},
		{"a=1", "a@0 = 1@2"},
		{"a\n=\n1", "a@0 = 1@4"},
		{"a = 1 b = c", "a@0 = 1@4; b@6 = c@10"},
		{"a=b c=d", "a@0 = b@2; c@4 = d@6"},
		{`a="b"c=(d)e=[f]g={h=1}i=2`, `a@0 = "b"@2; c@5 = d@8; e@10 = #22@12(f@13); g@15 = #23@17("h"@18 1@20); i@22 = 2@24`},
		{"a {}", "a@0 {}"},
		{"a{}", "a@0 {}"},
		{"a{}b{}", "a@0 {}; b@3 {}"},
		{"a {\n# b\n}\n", "a@0 {}"},
		{"a { b = 1 }", "a@0 {b@4 = 1@8}"},
		{"a {b=c}d=e", "a@0 {b@3 = c@5}; d@7 = e@9"},
		{"a { b = 1 } c = 2", "a@0 {b@4 = 1@8}; c@12 = 2@16"},
		{"a { b {} c { d = e } }", "a@0 {b@4 {}; c@9 {d@13 = e@17}}"},
		{"a {} a {} a {}", "a@0 {}; a@5 {}; a@10 {}"},
		{"a = 1 a {} a {}", "a@0 = 1@4; a@6 {}; a@11 {}"},
		{"a {} a = 1", "a@0 {}; a@5 = 1@9"},
		{`a = 1 b "x" { c = a }`, `a@0 = 1@4; b@6 "x" {c@14 = a@18}`},
		{`b "x" "y" {}`, `b@0 "x" "y" {}`},
		{`b"x""y"{}`, `b@0 "x" "y" {}`},
		{"b\n\"x\"\n\"y\"\n{\n}", `b@0 "x" "y" {}`},
		{`b "w" "x" "y" "z" {}`, `b@0 "w" "x" "y" "z" {}`},
		{`b "x" "x" {} b "x" "x" {}`, `b@0 "x" "x" {}; b@13 "x" "x" {}`},
		{`b "" { b "" {} }`, `b@0 "" {b@7 "" {}}`},
		{"a = {}", "a@0 = #23@4"},
		{"a = {} b {}", "a@0 = #23@4; b@7 {}"},
		{"a { b = {} }", "a@0 {b@4 = #23@8}"},
		{"a { b = { c = 1 } d = 2 }", `a@0 {b@4 = #23@8("c"@10 1@14); d@18 = 2@22}`},
		{"a = [for x in y : x if z] b = 1", "a@0 = #24:x@4(y@14 x@18 z@23); b@26 = 1@30"},
		{"a = b\n[c] d = e", "a@0 = #4@6(b@4 c@7); d@10 = e@14"},
		{"a = b\n(c) d = e", "a@0 = #5:b@4(c@7); d@10 = e@14"},
		{"a = b\n-c d = e", "a@0 = #12@6(b@4 c@7); d@9 = e@13"},
		{"a = b . c d = e", "a@0 = #3:c@6(b@4); d@10 = e@14"},
		{"a = b ? c : d e = f", "a@0 = #21@6(b@4 c@8 d@12); e@14 = f@18"},
		{"a = b + 1 * 2 c {}", "a@0 = #11@6(b@4 #8@10(1@8 2@12)); c@14 {}"},
		{`a = "x${b}" c = 1`, `a@0 = #26@4("x"@4 b@8); c@12 = 1@16`},
		{"a = 1 # b = 2\nc = 3", "a@0 = 1@4; c@14 = 3@18"},
	} {
		has(t, x[0], x[1])
		has(t, x[0]+"\n", x[1])
		has(t, x[0]+" # c", x[1])
	}
	has(t, strings.Repeat(" ", api.MaxText-4)+"a {}", fmt.Sprintf("a@%d {}", api.MaxText-4))
}

// P9.1: places in lines.
func TestLines(t *testing.T) {
	l := reads(t, "# c\nresource \"disk\" \"a\" {\n  size = 1 +\n    2\n\tlifecycle {\n\n  keep = true }\n}\nfor = x")
	if len(l) != 2 {
		t.Fatal(brief(l))
	}
	inner := l[0].Items
	for _, x := range []struct {
		got  api.Pos
		want api.Pos
	}{
		{l[0].Pos, api.Pos{At: 4, Line: 2, Col: 1}},
		{inner[0].Pos, api.Pos{At: 28, Line: 3, Col: 3}},
		{inner[0].E.Pos, api.Pos{At: 37, Line: 3, Col: 12}},
		{inner[0].E.L[1].Pos, api.Pos{At: 43, Line: 4, Col: 5}},
		{inner[1].Pos, api.Pos{At: 46, Line: 5, Col: 2}},
		{inner[1].Items[0].Pos, api.Pos{At: 61, Line: 7, Col: 3}},
		{l[1].Pos, api.Pos{At: 77, Line: 9, Col: 1}},
		{l[1].E.Pos, api.Pos{At: 83, Line: 9, Col: 7}},
	} {
		if x.got != x.want {
			t.Errorf("a place %v; want %v", x.got, x.want)
		}
	}
}

// P9.1: an item's name may be any, and it doesn't go on with the expression ahead.
func TestNames(t *testing.T) {
	words := []string{"true", "false", "null", "for", "in", "if", "a", "_", "_1", "x9", "else", "abcdefghijklmnopqrstuvwx"}
	for _, w := range words {
		n := len(w)
		has(t, w+" = x", fmt.Sprintf("%s@0 = x@%d", w, n+3))
		has(t, w+" {}", w+"@0 {}")
		has(t, w+` "x" {}`, w+`@0 "x" {}`)
		has(t, "b = x "+w+" = y", fmt.Sprintf("b@0 = x@4; %s@6 = y@%d", w, n+9))
		has(t, "b = x "+w+` "y" {}`, fmt.Sprintf(`b@0 = x@4; %s@6 "y" {}`, w))
		has(t, "b = 1 "+w+" {}", fmt.Sprintf("b@0 = 1@4; %s@6 {}", w))
		has(t, "b { "+w+" = x }", fmt.Sprintf("b@0 {%s@4 = x@%d}", w, n+7))
		fails(t, w, api.ErrForm, n)
	}
	var all string
	for _, w := range words {
		all += w + " = 1 " + w + " {} "
	}
	if l := reads(t, all); len(l) != 2*len(words) {
		t.Error(brief(l))
	}
	fails(t, "a = in = 1", api.ErrForm, 4)
	fails(t, "a = for = 1", api.ErrForm, 4)
}

// P9.1: labels are the bytes of strings.
func TestLabels(t *testing.T) {
	long := strings.Repeat("l", api.MaxStr)
	for _, label := range []string{"", "a", "a b", "for", "\"", "\\", "\n\t", "$", "${a}", "$$", "}", "{", "# no", "\x00\xff\xc3", "ä", long} {
		l := reads(t, "b "+lex.Quote(label)+lex.Quote("x")+lex.Quote(label)+" { c = 1 }")
		if len(l) != 1 || len(l[0].Labels) != 3 || l[0].Labels[0] != label || l[0].Labels[1] != "x" || l[0].Labels[2] != label || len(l[0].Items) != 1 {
			t.Errorf("the label %q: %s", label, brief(l))
		}
	}
	if l := reads(t, `b "$a{b} $" {}`); len(l[0].Labels) != 1 || l[0].Labels[0] != "$a{b} $" {
		t.Error(brief(l))
	}
	for n := range 5 {
		l := reads(t, "b"+strings.Repeat(` "x"`, n)+" {}")
		if len(l) != 1 || len(l[0].Labels) != n {
			t.Errorf("%d labels: %s", n, brief(l))
		}
	}
}

// P9.1: the first token that can't go on; also the end.
func TestFaults(t *testing.T) {
	for _, x := range []struct {
		s  string
		at int
	}{
		{"a", 1}, {"a # b", 5}, {"a =", 3}, {"a = ", 4}, {"a {", 3}, {"a { ", 4}, {`a "x"`, 5}, {`a "x" {`, 7}, {"a = 1 b", 7}, {"a { b = 1", 9}, {"a { b }", 6}, {"a { b", 5}, {"a {} b {", 8},
		{"}", 0}, {"{", 0}, {"{}", 0}, {"=", 0}, {"= 1", 0}, {"1", 0}, {`"a"`, 0}, {`"a" = 1`, 0}, {`"a" {}`, 0}, {`"${a}"`, 0}, {"(a) = 1", 0}, {",", 0}, {".", 0}, {"-a = 1", 0}, {"!", 0}, {"=>", 0},
		{"a b", 2}, {"a b = 1", 2}, {"a b {}", 2}, {"a 1", 2}, {"a 1 {}", 2}, {"a }", 2}, {"a (", 2}, {"a [b] = 1", 2}, {"a.b = 1", 1}, {"a : 1", 2}, {"a == 1", 2}, {"a => 1", 2}, {"a, b", 1}, {"a - b = 1", 2}, {"a ? b : c", 2},
		{`a "x" = 1`, 6}, {`a "x" b {}`, 6}, {`a "x" 1 {}`, 6}, {`a "x" }`, 6}, {`a "x" (`, 6}, {`a "x", "y" {}`, 5}, {`a "x" + "y" {}`, 6}, {`a "x" "y" = 1`, 10}, {`a "x" "y" "z" "w" = 1`, 18},
		{`a "${b}" {}`, 2}, {`a "x${b}" {}`, 2}, {`a "${b}x" {}`, 2}, {`a "x${b}y" {}`, 2}, {`a "x" "${b}" {}`, 6}, {`a "x" "y" "z" "${b}" {}`, 14}, {`a "${}" {}`, 2}, {`a "${&}" {}`, 2}, {`a "${b}" = 1`, 2}, {`a "${b}"`, 2},
		{"a = = 1", 4}, {"a = }", 4}, {"a = 1 2", 6}, {"a = 1 = 2", 6}, {"a = b = c", 6}, {"a = b => c", 6}, {"a = b {}", 6}, {`a = b "c" {}`, 6}, {`a = "b" "c" {}`, 8}, {"a = 1, b = 2", 5}, {`a = 1, b "x" { c = a }`, 5}, {"a = 1,", 5}, {"a = 1 }", 6}, {"a = 1 {", 6}, {"a = b : c", 6}, {"a = b ? c", 9}, {"a = b ? c d = 1", 10}, {"a = b == c == d", 11}, {"a = b !", 6}, {"a = b)", 5}, {"a = b]", 5}, {"a = (b", 6}, {"a = [b c = 1", 7},
		{"a = in", 4}, {"a = if = 1", 4}, {"a = b.1", 6}, {"a = b +\nc = 1", 10}, {"a = f(b\nc = 1", 8}, {"a = { b = 1 c = 2 }", 12}, {"a = { b {} }", 8}, {`a = { b "c" {} }`, 8},
		{"a { } }", 6}, {"a {} {}", 5}, {"a {} = 1", 5}, {"a {}, b {}", 4}, {"a {} 5", 5}, {`a {} "x"`, 5}, {"a = 1 a {} 5", 11}, {"a { { } }", 4}, {"a { = 1 }", 4}, {"a { 1 }", 4}, {`a { "b" = 1 }`, 4}, {"a { b: 1 }", 5}, {"a { b = 1, c = 2 }", 9}, {"a { b = 1 ) }", 10}, {"a { b {} 1 }", 9}, {"a { b { } } }", 12}, {"a { b { }", 9}, {"a { b = { }", 11}, {"a [ ]", 2}, {"a { ]", 4}, {"a { )", 4},
	} {
		fails(t, x.s, api.ErrForm, x.at)
		fails(t, "\n "+x.s, api.ErrForm, x.at+2)
		fails(t, "z = 1\nz {}\n"+x.s, api.ErrForm, x.at+11)
	}
}

// P9.1: layer 7's Diags go ahead of all others.
func TestFaultsOfTokens(t *testing.T) {
	fails(t, "a = 1 &", api.ErrMark, 6)
	fails(t, "} &", api.ErrMark, 2)
	fails(t, "a b c 01", api.ErrForm, 6)
	fails(t, "a = 9223372036854775808", api.ErrOver, 4)
	fails(t, "a = b c\n\"x", api.ErrForm, 8)
	fails(t, "a {} "+strings.Repeat("b", 25)+" {}", api.ErrLong, 5)
	fails(t, `a "`+strings.Repeat("l", api.MaxStr+1)+`" {}`, api.ErrLong, 2)
	fails(t, strings.Repeat("}", api.MaxText+1), api.ErrLong, 0)
	fails(t, strings.Repeat(" ", api.MaxText)+"&", api.ErrLong, 0)
	fails(t, "a = 1 a = 2 ~", api.ErrMark, 12)
	fails(t, nested(9)+" ~", api.ErrMark, len(nested(9))+1)
	fails(t, strings.Repeat("a {} ", 129)+"~", api.ErrMark, 645)
}

// P9.1: layer 8's Diags of an expression.
func TestFaultsOfExpressions(t *testing.T) {
	deep := func(n int) string { return strings.Repeat("-", n-1) + "a" }
	reads(t, "a = "+deep(api.MaxNest)+" b = "+deep(api.MaxNest))
	fails(t, "a = "+deep(api.MaxNest+1), api.ErrDeep, 4)
	fails(t, "a = 1\nb {\n c = "+deep(api.MaxNest+1)+" }", api.ErrDeep, 15)
	fails(t, "a = "+deep(api.MaxNest+1)+" )", api.ErrDeep, 4)
	fails(t, "a = "+deep(api.MaxNest+1)+" +", api.ErrForm, api.MaxNest+7)
	fails(t, "a = "+deep(api.MaxNest+1)+" b = )", api.ErrDeep, 4)
	fails(t, "a = ) b = "+deep(api.MaxNest+1), api.ErrForm, 4)
	fails(t, `a = "x${b c}"`, api.ErrForm, 10)
	fails(t, "a = 1\nb { c = \"${d &}\" }", api.ErrMark, 19)
	fails(t, `a = "${}" )`, api.ErrForm, 7)
	fails(t, `a = "${b}" "${}" {}`, api.ErrForm, 11)
	fails(t, `a = f("${01}")`, api.ErrForm, 9)
	fails(t, `a = "${9223372036854775808}"`, api.ErrOver, 7)
	fails(t, `a = "${`+strings.Repeat("b", 25)+`}"`, api.ErrLong, 7)
}

// P9.1: an attribute's name that stood already in the same block.
func TestTwice(t *testing.T) {
	for _, x := range []struct {
		s  string
		at int
	}{
		{"a = 1 a = 2", 6},
		{"a = 1\n\na = 1", 7},
		{"a = 1 b = 2 a = 3", 12},
		{"a = 1 b = 2 b = 3 a = 4", 12},
		{"a = 1 b {} a = 3", 11},
		{"a = 1 a {} a = 3", 11},
		{"a {} a = 1 a = 2", 11},
		{"a = 1 b { a = 2 } a = 3", 18},
		{"a { b = 1 b = 2 }", 10},
		{"a { b = 1 c { b = 1 } b = 2 }", 22},
		{"a { b { c = 1 c = 2 } }", 14},
		{"for = 1 for = 2", 8},
		{"a = 1 a =", 6},
		{"a = 1 a = )", 6},
		{"a = 1 a = 2 }", 6},
		{`a = 1 a = "${&}"`, 6},
		{"a = 1 a = 2 a = 3", 6},
		{"a = 1 a = " + strings.Repeat("-", 24) + "a", 6},
	} {
		fails(t, x.s, api.ErrTwice, x.at)
		fails(t, "\n\t"+x.s, api.ErrTwice, x.at+2)
		fails(t, "z {\n"+x.s, api.ErrTwice, x.at+4)
	}
	for _, s := range []string{"a = 1 b = 2", "a { b = 1 } a { b = 2 } b = 3", "b = 1 a { b = 1 c { b = 2 } }", "a = 1 a {} a \"x\" {}", "a { a { a = 1 } a = 1 } a = 1", "a = {b = 1, b = 2}", "a = b b = a", "a = 1 aa = 2 _a = 3"} {
		reads(t, s)
	}
	fails(t, "a = 1 a", api.ErrForm, 7)
	fails(t, "a = 1 a 5", api.ErrForm, 8)
	fails(t, "a = 1 a == 5", api.ErrForm, 8)
	fails(t, "a = ) a = 1 a = 2", api.ErrForm, 4)
}

// row is so many attributes, each of another name, or blocks.
func row(n int, blocks bool) string {
	var b strings.Builder
	for i := range n {
		if blocks && i%2 == 1 {
			b.WriteString("b { c = 1 } ")
		} else {
			fmt.Fprintf(&b, "a%d = %d ", i, i)
		}
	}
	return b.String()
}

// P9.1: the greatest number of items, and one more, of the text and of blocks.
func TestManyItems(t *testing.T) {
	for _, blocks := range []bool{false, true} {
		full := row(api.MaxItems, blocks)
		n := len(full)
		if l := reads(t, full); len(l) != api.MaxItems {
			t.Error(len(l))
		}
		l := reads(t, "x {"+full+"} y { z {"+full+"}"+row(api.MaxItems-1, blocks)+"}")
		if len(l) != 2 || len(l[0].Items) != api.MaxItems || len(l[1].Items) != api.MaxItems || len(l[1].Items[0].Items) != api.MaxItems {
			t.Error(brief(l))
		}
		for _, more := range []string{"z = 1", "z {}", `z "x" {}`, "z", "z =", "z }", "z 5", "z {", "z = )", "a0 = 1", `z "${b}" {}`, "for = 1"} {
			fails(t, full+more, api.ErrLong, n)
			fails(t, "x {\n"+full+more, api.ErrLong, n+4)
			fails(t, "w = 1 x { y { "+full+more+" } }", api.ErrLong, n+14)
		}
		for _, more := range []string{"}", "{", "1", `"x" {}`, "= 1", ")"} {
			fails(t, full+more, api.ErrForm, n)
		}
		fails(t, "x { "+full, api.ErrForm, n+4)
		fails(t, full+row(api.MaxItems, blocks), api.ErrLong, n)
	}
	fails(t, row(127, false)+"a0 = 1 z = 1 z = 1", api.ErrTwice, len(row(127, false)))
}

// P9.1: the fifth label.
func TestManyLabels(t *testing.T) {
	full := `b "v" "w" "x" "y" `
	for _, more := range []string{`"z" {}`, `"" {}`, `"z"`, `"z" "z" {}`, `"z" = 1`, `"z" }`, `"z" "${a}" {}`} {
		fails(t, full+more, api.ErrLong, 18)
		fails(t, "a {\n"+full+more, api.ErrLong, 22)
		fails(t, "a = 1 a {} "+full+more, api.ErrLong, 29)
	}
	fails(t, full+`"${a}" {}`, api.ErrForm, 18)
	fails(t, full+`5`, api.ErrForm, 18)
	fails(t, full+`= 1`, api.ErrForm, 18)
	fails(t, `b "v" "${w}" "x" "y" "z" {}`, api.ErrForm, 6)
}

// nested is so many blocks, each in the one ahead.
func nested(n int) string { return strings.Repeat("a {", n) + strings.Repeat("}", n) }

// P9.1: the greatest depth of blocks, and one more; it is told last, at the beginning of the text.
func TestDeep(t *testing.T) {
	for n := range api.MaxDepth + 1 {
		if l := reads(t, nested(n)); Depth(l) != n {
			t.Errorf("%d blocks: a depth of %d", n, Depth(l))
		}
	}
	full := nested(api.MaxDepth)
	reads(t, "a = 1 b {} "+full+full+" b {"+nested(api.MaxDepth-1)+"}")
	reads(t, strings.Replace(full, "{}", "{ b = [[[[[[[[[[[1]]]]]]]]]]] }", 1))
	for _, s := range []string{nested(api.MaxDepth + 1), "b = 1 " + full + " b {" + full + "}", "\n # c\n b {" + full + "} c = 1", nested(api.MaxDepth + 2), nested(1000), nested(api.MaxText / 4)} {
		fails(t, s, api.ErrDeep, 0)
	}
	if _, d := Read("\n\n " + nested(9)); d != (api.Diag{Code: api.ErrDeep, Pos: api.Pos{At: 0, Line: 1, Col: 1}}) {
		t.Error(d)
	}
	deep := nested(api.MaxDepth+1) + " "
	fails(t, deep+"}", api.ErrForm, len(deep))
	fails(t, deep+"b = 1 b = 2", api.ErrTwice, len(deep)+6)
	fails(t, deep+row(128, false), api.ErrLong, len(deep)+len(row(127, false)))
	fails(t, deep+`b "" "" "" "" "" {}`, api.ErrLong, len(deep)+14)
	fails(t, deep+"b = "+strings.Repeat("!", api.MaxNest)+"a", api.ErrDeep, len(deep)+4)
	fails(t, strings.Repeat("a {", 9), api.ErrForm, 27)
	fails(t, strings.Repeat("a{", api.MaxText/2), api.ErrForm, api.MaxText)
}

// exprTexts are some expressions.
var exprTexts = []string{"1", "true", "null", "b", "a.b[0]", "(c)", `""`, `"x y"`, `"p${q + 1}r\n"`, "[1, 2,]", "{}", "{k = v, \"w\": 2}", "f()", "f(a, b)", "-a", "!b", "a + b * c", "a ?\n b : c", "[for v in m : v if v > 1]", "{for k, v in m : k => v}", "for_ == in_", "a &&\n\tb || c"}

// writer writes items in any of the ways in which they may stand, and tells them as brief does.
type writer struct {
	r *rand.Rand
	b strings.Builder
}

func (w *writer) put(s string) {
	w.b.WriteString(s + []string{" ", "\n", "\t", "  ", " # c }\n"}[w.r.Intn(5)])
}

// shifted is an expression with all places so much greater.
func shifted(e api.Expr, by int) api.Expr {
	e.Pos.At += by
	e.L = append([]api.Expr(nil), e.L...)
	for i := range e.L {
		e.L[i] = shifted(e.L[i], by)
	}
	return e
}

// items writes items with blocks of at most a depth in them.
func (w *writer) items(t *testing.T, depth int) []api.Item {
	var l []api.Item
	for i := range w.r.Intn(6) {
		x := api.Item{Name: []string{"for", "in", "if", "a", "b", "k"}[i], Pos: api.Pos{At: w.b.Len()}}
		w.put(x.Name)
		if depth == 0 || w.r.Intn(3) > 0 {
			w.put("=")
			s := exprTexts[w.r.Intn(len(exprTexts))]
			e, d := expr.Parse(s)
			if d.Code != api.OK {
				t.Fatal(s, d)
			}
			x.E = shifted(e, w.b.Len())
			w.put(s)
		} else {
			x.Block = true
			for range w.r.Intn(5) {
				label := []string{"", "x", "a b", "${", "\"\n"}[w.r.Intn(5)]
				x.Labels = append(x.Labels, label)
				w.put(lex.Quote(label))
			}
			w.put("{")
			x.Items = w.items(t, depth-1)
			w.put("}")
		}
		l = append(l, x)
	}
	return l
}

// P9.1, P9.2: items of all kinds, written in any way, are read as they are.
func TestWritten(t *testing.T) {
	r := rand.New(rand.NewSource(9))
	for range 3000 {
		w := writer{r: r}
		want := w.items(t, r.Intn(5))
		s := w.b.String()
		if len(s) > api.MaxText {
			continue
		}
		has(t, s, brief(want))
		l := reads(t, s)
		if !Same(l, want) || Depth(l) != Depth(want) {
			t.Errorf("%.80q: not the same, or not as deep", s)
		}
		if t.Failed() {
			return
		}
	}
}

// P9.2: items that differ in one field; places are no matter, nothing is the same everywhere.
func TestSame(t *testing.T) {
	one := api.Expr{Op: api.ExLit, V: value.Int(1)}
	l := []api.Item{
		{}, {Block: true}, {Name: "a"}, {Name: "b"}, {Block: true, Name: "a"},
		{Labels: []string{""}}, {Labels: []string{"a"}}, {Labels: []string{"a", "b"}}, {Labels: []string{"b", "a"}}, {Block: true, Labels: []string{"a"}},
		{E: one}, {E: api.Expr{Op: api.ExLit}}, {E: api.Expr{Op: api.ExLit, V: value.Mark(value.Int(1))}}, {E: api.Expr{S: "a"}}, {E: api.Expr{S2: "a"}}, {E: api.Expr{L: []api.Expr{one}}}, {E: api.Expr{L: []api.Expr{one, one}}}, {Name: "a", E: one}, {Block: true, E: one},
		{Items: []api.Item{{}}}, {Items: []api.Item{{}, {}}}, {Items: []api.Item{{Name: "a"}}}, {Items: []api.Item{{Name: "a"}, {}}}, {Items: []api.Item{{}, {Name: "a"}}}, {Items: []api.Item{{Block: true}}}, {Items: []api.Item{{Items: []api.Item{{}}}}}, {Items: []api.Item{{E: one}}}, {Block: true, Items: []api.Item{{}}},
		{Block: true, Name: "a", Labels: []string{"b"}, E: one, Items: []api.Item{{}}},
	}
	for i, a := range l {
		for j, b := range l {
			b.Pos = api.Pos{At: j, Line: 7, Col: -1}
			b.E.Pos.At = 5
			b.E.L = append(make([]api.Expr, 0, 4), b.E.L...)
			for k := range b.E.L {
				b.E.L[k].Pos.Col = 3
			}
			b.Labels = append(make([]string, 0, 4), b.Labels...)
			b.Items = append(make([]api.Item, 0, 4), b.Items...)
			for k := range b.Items {
				b.Items[k].Pos.Line = 9
			}
			for _, others := range [][]api.Item{nil, {{Name: "z"}}, l} {
				x, y := append(others[:len(others):len(others)], a), append(others[:len(others):len(others)], b)
				if Same(x, y) != (i == j) || Same(y, x) != (i == j) || Same(x, others) || Same(others, y) {
					t.Errorf("Same(%v, %v) = %v", a, b, Same(x, y))
				}
			}
		}
	}
	if !Same(nil, nil) || !Same(nil, []api.Item{}) || !Same([]api.Item{}, nil) || Same(nil, l) || Same(l, nil) || !Same(l, l) {
		t.Error("lists of nothing")
	}
	if Same([]api.Item{{Name: "a"}, {Name: "b"}}, []api.Item{{Name: "b"}, {Name: "a"}}) {
		t.Error("another order")
	}
	if a, b := reads(t, `a=1 b"x"{c=[d,]}`), reads(t, "a = 1\n\n b \"x\" {\n c = [d]\n}\n"); !Same(a, b) {
		t.Error(brief(a), brief(b))
	}
}

// P9.2: depths of any items.
func TestDepth(t *testing.T) {
	block := func(l ...api.Item) api.Item { return api.Item{Block: true, Items: l} }
	plain := api.Item{Name: "a", E: api.Expr{L: []api.Expr{{L: []api.Expr{{}}}}}}
	odd := api.Item{Items: []api.Item{block(block())}}
	for _, x := range []struct {
		l    []api.Item
		want int
	}{
		{nil, 0}, {[]api.Item{}, 0}, {[]api.Item{plain}, 0}, {[]api.Item{{}}, 0}, {[]api.Item{block()}, 1}, {[]api.Item{block(plain)}, 1}, {[]api.Item{plain, block(), plain}, 1}, {[]api.Item{block(block())}, 2},
		{[]api.Item{block(block()), block()}, 2}, {[]api.Item{block(), block(plain, block(plain))}, 2}, {[]api.Item{block(), block(block(), block(block()), block()), block()}, 3},
		{[]api.Item{odd}, 0}, {[]api.Item{block(odd)}, 1}, {[]api.Item{odd, block()}, 1}, {[]api.Item{{Block: true, Labels: []string{"a"}, E: plain.E}}, 1},
	} {
		if Depth(x.l) != x.want {
			t.Errorf("Depth(%s) = %d; want %d", brief(x.l), Depth(x.l), x.want)
		}
	}
	for s, want := range map[string]int{"": 0, "a = 1": 0, "a = {b = {c = 1}}": 0, "a {}": 1, "a {} b {}": 1, "a { b {} } c {}": 2, "a {} b { c { d = 1 } }": 2} {
		if got := Depth(reads(t, s)); got != want {
			t.Errorf("Depth of %q = %d; want %d", s, got, want)
		}
	}
}

// P9.2: the first attribute of a name.
func TestAttr(t *testing.T) {
	l := reads(t, `a {b = 0} b "x" {} b = 1 c = a + 2 for = x d { e = 3 } _ = 4`)
	for name, want := range map[string]string{
		"b": "b@19 = 1@23", "c": "c@25 = #11@31(a@29 2@33)", "for": "for@35 = x@41", "_": "_@55 = 4@59",
		"a": "", "d": "", "e": "", "": "", "x": "", "B": "", "b ": "", "bb": "", "fo": "",
	} {
		x, ok := Attr(l, name)
		if ok != (want != "") || ok && brief([]api.Item{x}) != want || !ok && !isNoItem(x) {
			t.Errorf("Attr of %q: %s, %v; want %s", name, brief([]api.Item{x}), ok, want)
		}
	}
	for _, none := range [][]api.Item{nil, {}, {{Block: true}}, {{Name: "b"}}} {
		if x, ok := Attr(none, ""); ok || !isNoItem(x) {
			t.Error(brief(none), x, ok)
		}
	}
	odd := []api.Item{{Block: true, Name: "a"}, {Name: "b"}, {Name: "a", Labels: []string{"l"}, E: api.Expr{Op: 99, S: "first"}, Items: []api.Item{{Name: "i"}}, Pos: api.Pos{At: -1}}, {Name: "a", E: api.Expr{S: "second"}}, {}}
	if x, ok := Attr(odd, "a"); !ok || !Same([]api.Item{x}, odd[2:3]) || x.Pos != odd[2].Pos {
		t.Error(x, ok)
	}
	if x, ok := Attr(odd, ""); !ok || !isNoItem(x) {
		t.Error(x, ok)
	}
}

func isNoItem(x api.Item) bool { return Same([]api.Item{x}, []api.Item{{}}) && x.Pos == (api.Pos{}) }

// P9.2: the blocks of a name, in their order.
func TestBlocks(t *testing.T) {
	l := reads(t, `a = 1 a {} b "x" { a "y" {} } a "z" { c = 2 } b = 3 a "z" {} for {}`)
	for name, want := range map[string]string{
		"a": `a@6 {}; a@30 "z" {c@38 = 2@42}; a@52 "z" {}`, "b": `b@11 "x" {a@19 "y" {}}`, "for": "for@61 {}",
		"c": "", "": "", "x": "", "y": "", "A": "", "aa": "",
	} {
		if got := Blocks(l, name); brief(got) != want {
			t.Errorf("Blocks of %q: %s; want %s", name, brief(got), want)
		}
	}
	for _, none := range [][]api.Item{nil, {}, {{}}, {{Block: true, Name: "b"}}} {
		if got := Blocks(none, ""); len(got) != 0 {
			t.Error(brief(none), got)
		}
	}
	odd := []api.Item{{Block: true}, {Block: true, E: api.Expr{Op: 99, S: "e"}, Pos: api.Pos{At: -1}}, {}, {Block: true, Name: "a"}, {Block: true, Labels: make([]string, 9)}}
	want := []api.Item{odd[0], odd[1], odd[4]}
	if got := Blocks(odd, ""); !Same(got, want) || got[1].Pos != odd[1].Pos {
		t.Error(got)
	}
}

// R1: items that are nested as deep as may be.
func TestNestedItems(t *testing.T) {
	deep := func() []api.Item {
		l := []api.Item{{Name: "end"}}
		for range 1 << 16 {
			l = []api.Item{{Block: true, Name: "a", Items: l}}
		}
		return l
	}
	l := deep()
	if Depth(l) != 1<<16 || !Same(l, deep()) || !Same(Blocks(l, "a"), l) {
		t.Error("deep blocks")
	}
	l[0].Block = false
	if x, ok := Attr(l, "a"); !ok || !Same([]api.Item{x}, l) {
		t.Error("a deep attribute")
	}
	e := api.Expr{}
	for range 1 << 16 {
		e = api.Expr{L: []api.Expr{e}}
	}
	if x, ok := Attr([]api.Item{{E: e}}, ""); !ok || !expr.Same(x.E, e) {
		t.Error("a deep expression")
	}
}

// R1, R3, R6: of any bytes there are items, or a Diag with a place, each time the same.
func TestAnyText(t *testing.T) {
	r := rand.New(rand.NewSource(99))
	pieces := []string{"a", "b", "for", "in", "1", `"x"`, `"${a}"`, `"${`, "=", "{", "}", "(", ")", "[", "]", ",", ".", "-", "?", ":", "=>", "#", "\n", "&", "\x00", "\xff", "~", " "}
	for range 30000 {
		var b strings.Builder
		for range r.Intn(12) {
			b.WriteString(pieces[r.Intn(len(pieces))] + " ")
		}
		s := b.String()
		l, d := Read(s)
		again, e := Read(s)
		if d != e || !Same(l, again) || d.Code == api.OK && d != (api.Diag{}) || d.Code != api.OK && (len(l) != 0 || d.What != "") {
			t.Fatalf("Read(%q) = %s, %v", s, brief(l), d)
		}
		placed(t, s, l)
	}
}

// spoil writes over all of l's memory, and the room behind its lists.
func spoil(l []api.Item) {
	for i := range l {
		spoilItem(&l[i])
	}
	whole := l[:cap(l)]
	for i := range whole {
		whole[i] = api.Item{Block: true, Name: "other"}
	}
}

func spoilItem(x *api.Item) {
	spoil(x.Items)
	spoilExpr(&x.E)
	whole := x.Labels[:cap(x.Labels)]
	for i := range whole {
		whole[i] = "other"
	}
}

func spoilExpr(e *api.Expr) {
	for i := range e.L {
		spoilExpr(&e.L[i])
	}
	whole := e.L[:cap(e.L)]
	for i := range whole {
		whole[i] = api.Expr{Op: 1, S: "other"}
	}
	for i := range e.V.L {
		e.V.L[i] = value.Str("other")
	}
	for i := range e.V.Keys {
		e.V.Keys[i] = "other"
	}
	e.Op, e.S, e.V = 2, "other", value.Str("other")
}

const memoryText = `a "x" "y" { b = [c, "d${e}"] f "z" { g = {h = 1} } } i = [j] a "k" { l = m(n) }`

// memoryItems are items with lists of all kinds.
func memoryItems(t *testing.T) []api.Item {
	l := reads(t, memoryText)
	m, _ := value.Make([]string{"k"}, []api.Value{value.List(value.Int(1))})
	l[1].E.L = append(l[1].E.L, api.Expr{Op: api.ExLit, V: m})
	l[1].Labels = []string{"l"}
	l[1].Items = []api.Item{{Name: "x", E: api.Expr{L: []api.Expr{{S: "y"}}}}}
	l[0].E = api.Expr{L: []api.Expr{{S: "e"}}}
	return l
}

// R4: what is answered is new memory, and nothing that is handed in is changed.
func TestNewMemory(t *testing.T) {
	first, again := reads(t, memoryText), reads(t, memoryText)
	want := brief(again)
	for i := range first {
		rest := brief(first[i+1:])
		spoilItem(&first[i])
		if brief(first[i+1:]) != rest {
			t.Errorf("the items behind %d hang on it", i)
		}
	}
	spoil(first)
	if brief(again) != want {
		t.Error("two answers of Read share memory")
	}

	l := memoryItems(t)
	room := append(make([]api.Item, 0, len(l)+4), l...)
	x, _ := Attr(room, "i")
	b := Blocks(room, "a")
	otherX, _ := Attr(room, "i")
	otherB := Blocks(room, "a")
	for _, y := range room[len(room):cap(room)] {
		if !isNoItem(y) {
			t.Error("the room behind was changed")
		}
	}
	spoilItem(&x)
	spoil(b)
	if !Same(room, memoryItems(t)) {
		t.Error("what was handed in shares memory with an answer")
	}
	spoil(room)
	whole := memoryItems(t)
	if !Same([]api.Item{otherX}, whole[1:2]) || !Same(otherB, []api.Item{whole[0], whole[2]}) {
		t.Error("what was answered hangs on what was handed in")
	}
	spoilItem(&otherB[0])
	if !Same(otherB[1:], whole[2:]) {
		t.Error("two lists of an answer share memory")
	}
}
