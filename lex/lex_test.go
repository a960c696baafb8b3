package lex

import (
	"math"
	"math/big"
	"math/rand"
	"regexp"
	"strings"
	"testing"

	"surety/api"
)

// pos is the place at so many bytes of s, counted anew.
func pos(s string, at int) api.Pos {
	return api.Pos{At: at, Line: 1 + strings.Count(s[:at], "\n"), Col: at - strings.LastIndex(s[:at], "\n")}
}

func sameToks(a, b []api.Tok) bool {
	if len(a) != len(b) {
		return false
	}
	for i := range a {
		if a[i].Kind != b[i].Kind || a[i].S != b[i].S || a[i].N != b[i].N || a[i].Pos != b[i].Pos || len(a[i].Parts) != len(b[i].Parts) {
			return false
		}
		for j := range a[i].Parts {
			if a[i].Parts[j] != b[i].Parts[j] {
				return false
			}
		}
	}
	return true
}

// has holds that the tokens of s are these.
func has(t *testing.T, s string, want ...api.Tok) {
	t.Helper()
	l, d := All(s)
	if d != (api.Diag{}) || !sameToks(l, want) {
		t.Errorf("All(%.80q) = %v, %v; want %v", s, l, d, want)
	}
}

// fails holds that this is the first thing that is wrong in s.
func fails(t *testing.T, s string, e api.Errno, at int) {
	t.Helper()
	l, d := All(s)
	if len(l) != 0 || d != (api.Diag{Code: e, Pos: pos(s, at)}) {
		t.Errorf("All(%.80q) has %d tokens, %v; want %d at %v", s, len(l), d, e, pos(s, at))
	}
}

func at(at, line, col int) api.Pos { return api.Pos{At: at, Line: line, Col: col} }

func tokEnd(p api.Pos) api.Tok            { return api.Tok{Kind: api.TokEnd, Pos: p} }
func tokName(s string, p api.Pos) api.Tok { return api.Tok{Kind: api.TokName, S: s, Pos: p} }
func tokInt(n int64, p api.Pos) api.Tok   { return api.Tok{Kind: api.TokInt, N: n, Pos: p} }
func tokSign(s string, p api.Pos) api.Tok { return api.Tok{Kind: api.TokSign, S: s, Pos: p} }
func tokStr(p api.Pos, l ...api.Part) api.Tok {
	return api.Tok{Kind: api.TokStr, Parts: l, Pos: p}
}

func bytesPart(s string) api.Part           { return api.Part{S: s} }
func exprPart(s string, p api.Pos) api.Part { return api.Part{Expr: true, S: s, Pos: p} }

// P7.1: tokens written out.
func TestTokens(t *testing.T) {
	has(t, "", tokEnd(at(0, 1, 1)))
	has(t, " \t \n\n\t ", tokEnd(at(7, 3, 3)))
	has(t, "a = \"x${b}y\" # z",
		tokName("a", at(0, 1, 1)),
		tokSign("=", at(2, 1, 3)),
		tokStr(at(4, 1, 5), bytesPart("x"), exprPart("b", at(8, 1, 9)), bytesPart("y")),
		tokEnd(at(16, 1, 17)))
	has(t, "resource \"disk\" \"d\" {\n\tsize = 10*n\n}\n",
		tokName("resource", at(0, 1, 1)),
		tokStr(at(9, 1, 10), bytesPart("disk")),
		tokStr(at(16, 1, 17), bytesPart("d")),
		tokSign("{", at(20, 1, 21)),
		tokName("size", at(23, 2, 2)),
		tokSign("=", at(28, 2, 7)),
		tokInt(10, at(30, 2, 9)),
		tokSign("*", at(32, 2, 11)),
		tokName("n", at(33, 2, 12)),
		tokSign("}", at(35, 3, 1)),
		tokEnd(at(37, 4, 1)))
	has(t, "a.b[0]&&!_x1||-3%2",
		tokName("a", at(0, 1, 1)), tokSign(".", at(1, 1, 2)), tokName("b", at(2, 1, 3)),
		tokSign("[", at(3, 1, 4)), tokInt(0, at(4, 1, 5)), tokSign("]", at(5, 1, 6)),
		tokSign("&&", at(6, 1, 7)), tokSign("!", at(8, 1, 9)), tokName("_x1", at(9, 1, 10)),
		tokSign("||", at(12, 1, 13)), tokSign("-", at(14, 1, 15)), tokInt(3, at(15, 1, 16)),
		tokSign("%", at(16, 1, 17)), tokInt(2, at(17, 1, 18)), tokEnd(at(18, 1, 19)))
	has(t, "\"a\"\"b\"1\"\"c",
		tokStr(at(0, 1, 1), bytesPart("a")), tokStr(at(3, 1, 4), bytesPart("b")),
		tokInt(1, at(6, 1, 7)), tokStr(at(7, 1, 8)), tokName("c", at(9, 1, 10)), tokEnd(at(10, 1, 11)))
}

// P7.1: comments go up to the next line feed, or the end, whatever they have; a # within a string is none.
func TestComments(t *testing.T) {
	has(t, "#", tokEnd(at(1, 1, 2)))
	has(t, "##\n#", tokEnd(at(4, 2, 2)))
	has(t, "# \"&|\\A\r\x00\xff${ 01 #\na#b\n c",
		tokName("a", at(18, 2, 1)), tokName("c", at(23, 3, 2)), tokEnd(at(24, 3, 3)))
	has(t, "1#2", tokInt(1, at(0, 1, 1)), tokEnd(at(3, 1, 4)))
	has(t, "<#\n=", tokSign("<", at(0, 1, 1)), tokSign("=", at(3, 2, 1)), tokEnd(at(4, 2, 2)))
	has(t, "\"#\"#\"", tokStr(at(0, 1, 1), bytesPart("#")), tokEnd(at(5, 1, 6)))
	has(t, "\"${#}\"", tokStr(at(0, 1, 1), exprPart("#", at(3, 1, 4))), tokEnd(at(6, 1, 7)))
}

// P7.1: each byte alone, and each byte between two names.
func TestBytesAlone(t *testing.T) {
	for i := range 256 {
		s := string([]byte{byte(i)})
		switch {
		case strings.Contains(" \n\t#", s):
			has(t, s, tokEnd(pos(s, 1)))
		case strings.Contains("abcdefghijklmnopqrstuvwxyz_", s):
			has(t, s, tokName(s, at(0, 1, 1)), tokEnd(at(1, 1, 2)))
		case strings.Contains("0123456789", s):
			has(t, s, tokInt(int64(i-'0'), at(0, 1, 1)), tokEnd(at(1, 1, 2)))
		case strings.Contains("{}[]()=,.:?!<>+-*/%", s):
			has(t, s, tokSign(s, at(0, 1, 1)), tokEnd(at(1, 1, 2)))
			has(t, "a"+s+"b", tokName("a", at(0, 1, 1)), tokSign(s, at(1, 1, 2)), tokName("b", at(2, 1, 3)), tokEnd(at(3, 1, 4)))
		case s == "\"":
			fails(t, s, api.ErrForm, 0)
		default:
			fails(t, s, api.ErrMark, 0)
			fails(t, "a\n b"+s+"c", api.ErrMark, 4)
		}
	}
}

// P7.1: signs of two bytes go ahead of those of one; no others are of two.
func TestSigns(t *testing.T) {
	two := map[string]int{"==": 1, "!=": 1, "<=": 1, ">=": 1, "&&": 1, "||": 1, "=>": 1}
	for _, a := range "{}[]()=,.:?!<>+-*/%&|" {
		for _, b := range "{}[]()=,.:?!<>+-*/%&|" {
			s := string(a) + string(b)
			single := func(c rune) bool { return c != '&' && c != '|' }
			switch {
			case two[s] > 0:
				has(t, s, tokSign(s, at(0, 1, 1)), tokEnd(at(2, 1, 3)))
			case !single(a):
				fails(t, s, api.ErrMark, 0)
			case !single(b):
				fails(t, s, api.ErrMark, 1)
			default:
				has(t, s, tokSign(s[:1], at(0, 1, 1)), tokSign(s[1:], at(1, 1, 2)), tokEnd(at(2, 1, 3)))
			}
		}
	}
	has(t, "==>=", tokSign("==", at(0, 1, 1)), tokSign(">=", at(2, 1, 3)), tokEnd(at(4, 1, 5)))
	has(t, "=>=", tokSign("=>", at(0, 1, 1)), tokSign("=", at(2, 1, 3)), tokEnd(at(3, 1, 4)))
	has(t, "===", tokSign("==", at(0, 1, 1)), tokSign("=", at(2, 1, 3)), tokEnd(at(3, 1, 4)))
	has(t, "< =", tokSign("<", at(0, 1, 1)), tokSign("=", at(2, 1, 3)), tokEnd(at(3, 1, 4)))
	fails(t, "&&&", api.ErrMark, 2)
	fails(t, "a | |", api.ErrMark, 2)
	fails(t, "a\n&", api.ErrMark, 2)
}

// P7.1: names, and their limit.
func TestNames(t *testing.T) {
	for _, s := range []string{"a", "z", "_", "__", "_0", "a0", "az_09", "true", "for", strings.Repeat("a", 24), "_" + strings.Repeat("9", 23)} {
		has(t, s, tokName(s, at(0, 1, 1)), tokEnd(at(len(s), 1, len(s)+1)))
	}
	for _, s := range []string{strings.Repeat("a", 25), "_" + strings.Repeat("9", 24), strings.Repeat("a", api.MaxText)} {
		fails(t, s, api.ErrLong, 0)
	}
	fails(t, "b\n\t"+strings.Repeat("a", 25)+" &", api.ErrLong, 3)
	long := strings.Repeat("a", 24)
	has(t, long+"."+long, tokName(long, at(0, 1, 1)), tokSign(".", at(24, 1, 25)), tokName(long, at(25, 1, 26)), tokEnd(at(49, 1, 50)))
	fails(t, "aB", api.ErrMark, 1)
	fails(t, long+"A", api.ErrMark, 24)
}

// P7.1: numbers, what may not stand in them, and their limit: that they are in no form goes ahead of that they are too great.
func TestNumbers(t *testing.T) {
	has(t, "0", tokInt(0, at(0, 1, 1)), tokEnd(at(1, 1, 2)))
	has(t, "10", tokInt(10, at(0, 1, 1)), tokEnd(at(2, 1, 3)))
	has(t, "9223372036854775807", tokInt(1<<63-1, at(0, 1, 1)), tokEnd(at(19, 1, 20)))
	has(t, "0 1", tokInt(0, at(0, 1, 1)), tokInt(1, at(2, 1, 3)), tokEnd(at(3, 1, 4)))
	has(t, "1.0", tokInt(1, at(0, 1, 1)), tokSign(".", at(1, 1, 2)), tokInt(0, at(2, 1, 3)), tokEnd(at(3, 1, 4)))
	great := strings.Repeat("9", 400)
	for _, s := range []string{"9223372036854775808", "9999999999999999999", "18446744073709551616", "18446744073709551617", "10000000000000000000", great} {
		fails(t, s, api.ErrOver, 0)
		fails(t, "x\n "+s+"&", api.ErrOver, 3)
		for _, behind := range []string{"a", "z", "_", "a9"} {
			fails(t, "- "+s+behind, api.ErrForm, 2)
		}
		fails(t, "0"+s, api.ErrForm, 0)
	}
	for _, s := range []string{"00", "01", "09", "0a", "0z", "0_", "0x1", "1a", "1z", "1_", "1_0", "12e3", "000", "0" + great, great + "b"} {
		fails(t, s, api.ErrForm, 0)
		fails(t, "a "+s, api.ErrForm, 2)
	}
	fails(t, "1A", api.ErrMark, 1)
	fails(t, "1\xc3", api.ErrMark, 1)
}

// P7.1: what a string has, in its pieces.
func TestStrings(t *testing.T) {
	for s, want := range map[string][]api.Part{
		``:              nil,
		`a`:             {bytesPart("a")},
		`\"\\\n\t\$`:    {bytesPart("\"\\\n\t$")},
		`a\"b\\c`:       {bytesPart(`a"b\c`)},
		`\\n`:           {bytesPart(`\n`)},
		`$`:             {bytesPart("$")},
		`a$`:            {bytesPart("a$")},
		`$$`:            {bytesPart("$$")},
		`$ {`:           {bytesPart("$ {")},
		`{}`:            {bytesPart("{}")},
		`a}b{c`:         {bytesPart("a}b{c")},
		`\${`:           {bytesPart("${")},
		`\${a}`:         {bytesPart("${a}")},
		`${a}`:          {exprPart("a", at(3, 1, 4))},
		`${}`:           {exprPart("", at(3, 1, 4))},
		`${}}`:          {exprPart("", at(3, 1, 4)), bytesPart("}")},
		`$${a}`:         {bytesPart("$"), exprPart("a", at(4, 1, 5))},
		`$$${a}`:        {bytesPart("$$"), exprPart("a", at(5, 1, 6))},
		`\$${a}`:        {bytesPart("$"), exprPart("a", at(5, 1, 6))},
		`\\${a}`:        {bytesPart("\\"), exprPart("a", at(5, 1, 6))},
		`\n$x${ a }`:    {bytesPart("\n$x"), exprPart(" a ", at(7, 1, 8))},
		`${a}${b}`:      {exprPart("a", at(3, 1, 4)), exprPart("b", at(7, 1, 8))},
		`x${a}y${b}z`:   {bytesPart("x"), exprPart("a", at(4, 1, 5)), bytesPart("y"), exprPart("b", at(9, 1, 10)), bytesPart("z")},
		`${a}\n\t`:      {exprPart("a", at(3, 1, 4)), bytesPart("\n\t")},
		`${$}`:          {exprPart("$", at(3, 1, 4))},
		`${a $ b\n\q}`:  {exprPart(`a $ b\n\q`, at(3, 1, 4))},
		"\t\r\x00\xff":  {bytesPart("\t\r\x00\xff")},
		"${\t\x00\xff}": {exprPart("\t\x00\xff", at(3, 1, 4))},
		"\u00e4&|ABC#'": {bytesPart("\u00e4&|ABC#'")},
		`${a#}#`:        {exprPart("a#", at(3, 1, 4)), bytesPart("#")},
	} {
		n := len(s) + 2
		has(t, `"`+s+`"`, tokStr(at(0, 1, 1), want...), tokEnd(at(n, 1, n+1)))
	}
	has(t, "a\n \"x${b}\" \"${c}\"",
		tokName("a", at(0, 1, 1)),
		tokStr(at(3, 2, 2), bytesPart("x"), exprPart("b", at(7, 2, 6))),
		tokStr(at(11, 2, 10), exprPart("c", at(14, 2, 13))),
		tokEnd(at(17, 2, 16)))
}

// P7.1: each byte in a string: as it is, behind a \, behind a $, and in an expression.
func TestBytesInStrings(t *testing.T) {
	stands := map[byte]string{'"': "\"", '\\': "\\", 'n': "\n", 't': "\t", '$': "$"}
	for i := range 256 {
		c := byte(i)
		s := string([]byte{c})
		one := func(s, want string) {
			has(t, s, tokStr(at(0, 1, 1), bytesPart(want)), tokEnd(pos(s, len(s))))
		}
		switch c {
		case '"':
			has(t, `"a"`, tokStr(at(0, 1, 1), bytesPart("a")), tokEnd(at(3, 1, 4)))
		case '\n', '\\':
			fails(t, `"a`+s+`x"`, api.ErrForm, 0)
		default:
			one(`"a`+s+`x"`, "a"+s+"x")
		}
		if want, ok := stands[c]; ok {
			one(`"a\`+s+`x"`, "a"+want+"x")
		} else {
			fails(t, `"a\`+s+`x"`, api.ErrForm, 0)
		}
		if strings.Contains("\"{}\n", s) {
			if c != '}' {
				fails(t, `"${a`+s+`x}"`, api.ErrForm, 0)
			}
		} else {
			whole := `"${a` + s + `x}"`
			has(t, whole, tokStr(at(0, 1, 1), exprPart("a"+s+"x", at(3, 1, 4))), tokEnd(at(len(whole), 1, len(whole)+1)))
		}
	}
}

// P7.1: strings in no form, at their own place.
func TestWrongStrings(t *testing.T) {
	for _, s := range []string{
		`"`, `"a`, "\"\n\"", "\"a\nb\"", `"\`, `"\"`, `"a\"`, `"\\\"`, "\"\\\n\"", `"\x"`, `"\N"`, `"\0"`, `"\{"`, `"\ "`, "\"\\\xff\"", `"\`, `"a\`,
		`"${`, `"${"`, `"${a`, `"${a"`, `"${a"}"`, `"${"x"}"`, `"${{}}"`, `"${a{}}"`, `"${${a}}"`, "\"${a\n}\"", "\"${\n}\"", `"${a}`, `"x${a}y`, `"$`, `"${a}${`, `"${a}\y"`, "\"${a}\n\"",
	} {
		fails(t, s, api.ErrForm, 0)
		fails(t, "a =\n  "+s, api.ErrForm, 6)
		fails(t, `"ok" `+s, api.ErrForm, 5)
	}
	fails(t, `"$"a"`, api.ErrForm, 4)
	// What is wrong ahead of it goes ahead.
	fails(t, `01 "`, api.ErrForm, 0)
	fails(t, `& "`, api.ErrMark, 0)
	fails(t, `"a" & "`, api.ErrMark, 4)
}

// P7.1: how long a string is: the bytes of its pieces, as they are meant, and of its expressions.
func TestLongStrings(t *testing.T) {
	some := func(n int) string { return strings.Repeat("a", n) }
	has(t, `"`+some(1024)+`"`, tokStr(at(0, 1, 1), bytesPart(some(1024))), tokEnd(at(1026, 1, 1027)))
	has(t, `"`+strings.Repeat(`\n`, 1024)+`"`, tokStr(at(0, 1, 1), bytesPart(strings.Repeat("\n", 1024))), tokEnd(at(2050, 1, 2051)))
	has(t, `"${`+some(1024)+`}"`, tokStr(at(0, 1, 1), exprPart(some(1024), at(3, 1, 4))), tokEnd(at(1029, 1, 1030)))
	has(t, `"`+some(500)+`${`+some(24)+`}`+some(500)+`"`,
		tokStr(at(0, 1, 1), bytesPart(some(500)), exprPart(some(24), at(503, 1, 504)), bytesPart(some(500))), tokEnd(at(1029, 1, 1030)))
	for _, s := range []string{
		`"` + some(1025) + `"`,
		`"` + some(9000) + `"`,
		`"` + strings.Repeat(`\t`, 1025) + `"`,
		`"${` + some(1025) + `}"`,
		`"` + some(500) + `${` + some(25) + `}` + some(500) + `"`,
		`"` + some(1024) + `${b}"`,
		`"${b}` + some(1024) + `"`,
		`"${` + some(512) + `}${` + some(513) + `}"`,
		`"` + some(1024) + `$"`,
	} {
		fails(t, s, api.ErrLong, 0)
		fails(t, "x\n"+s+" &", api.ErrLong, 2)
		// That it is in no form goes ahead.
		fails(t, s[:len(s)-1], api.ErrForm, 0)
		fails(t, s[:len(s)-1]+"\n\"", api.ErrForm, 0)
		fails(t, s[:len(s)-1]+`\q"`, api.ErrForm, 0)
		fails(t, s[:len(s)-1]+`${"`, api.ErrForm, 0)
	}
	// An expression that has nothing has no length.
	many := strings.Repeat("${}", 2000)
	if l, d := All(`"` + many + `"`); d != (api.Diag{}) || len(l) != 2 || len(l[0].Parts) != 2000 {
		t.Error(len(l), d)
	}
}

// P7.1: how long a text is, told ahead of all.
func TestLongTexts(t *testing.T) {
	n := api.MaxText
	has(t, strings.Repeat(" ", n), tokEnd(at(n, 1, n+1)))
	has(t, strings.Repeat("\n", n), tokEnd(at(n, n+1, 1)))
	has(t, "#"+strings.Repeat("x", n-1), tokEnd(at(n, 1, n+1)))
	has(t, strings.Repeat("\n", n-1)+"a", tokName("a", at(n-1, n, 1)), tokEnd(at(n, n, 2)))
	for _, s := range []string{strings.Repeat(" ", n+1), strings.Repeat("\n", n+1), strings.Repeat("&", n+1), "\"" + strings.Repeat("a", n), strings.Repeat("#", 1<<20)} {
		fails(t, s, api.ErrLong, 0)
	}
	fails(t, strings.Repeat("\n", n-1)+"&", api.ErrMark, n-1)
	l, d := All(strings.Repeat("=,", n/2))
	if d != (api.Diag{}) || len(l) != n+1 || !sameToks(l[n-1:], []api.Tok{tokSign(",", at(n-1, 1, n)), tokEnd(at(n, 1, n+1))}) {
		t.Error(len(l), d)
	}
}

// plainAll has the tokens of s by regular expressions; an error's number, and a place, if there are none.
func plainAll(s string) ([]api.Tok, api.Errno, int) {
	var l []api.Tok
	for at := 0; ; {
		at += len(betweens.FindString(s[at:]))
		if at == len(s) {
			return append(l, tokEnd(pos(s, at))), api.OK, 0
		}
		t, size, e := plainToken(s, at)
		if e != api.OK {
			return nil, e, at
		}
		t.Pos = pos(s, at)
		l = append(l, t)
		at += size
	}
}

var (
	betweens = regexp.MustCompile(`^(?:[ \n\t]|#[^\n]*)*`)
	names    = regexp.MustCompile(`^[a-z_][a-z0-9_]*`)
	numbers  = regexp.MustCompile(`^[0-9][a-z0-9_]*`)
	isNumber = regexp.MustCompile(`^(?:0|[1-9][0-9]*)$`)
	signs    = regexp.MustCompile(`^(?:==|!=|<=|>=|&&|\|\||=>|[{}\[\]()=,.:?!<>+*/%-])`)
	pieces   = regexp.MustCompile(`^(?:\\["\\nt$]|\$\{[^"{}\n]*\}|\$\{|[^"\\\n])`)
)

func plainToken(s string, at int) (api.Tok, int, api.Errno) {
	if m := names.FindString(s[at:]); m != "" {
		if len(m) > 24 {
			return api.Tok{}, 0, api.ErrLong
		}
		return tokName(m, api.Pos{}), len(m), api.OK
	}
	if m := numbers.FindString(s[at:]); m != "" {
		n, _ := new(big.Int).SetString(m, 10)
		if !isNumber.MatchString(m) {
			return api.Tok{}, 0, api.ErrForm
		}
		if !n.IsInt64() {
			return api.Tok{}, 0, api.ErrOver
		}
		return tokInt(n.Int64(), api.Pos{}), len(m), api.OK
	}
	if m := signs.FindString(s[at:]); m != "" {
		return tokSign(m, api.Pos{}), len(m), api.OK
	}
	if s[at] == '"' {
		return plainString(s, at)
	}
	return api.Tok{}, 0, api.ErrMark
}

func plainString(s string, at int) (api.Tok, int, api.Errno) {
	var t api.Tok
	t.Kind = api.TokStr
	size, from := 0, at
	for at++; ; {
		m := pieces.FindString(s[at:])
		switch {
		case m == "":
			if !strings.HasPrefix(s[at:], `"`) {
				return api.Tok{}, 0, api.ErrForm
			}
			if size > 1024 {
				return api.Tok{}, 0, api.ErrLong
			}
			return t, at + 1 - from, api.OK
		case m == "${":
			return api.Tok{}, 0, api.ErrForm
		case len(m) > 2 && m[:2] == "${":
			t.Parts = append(t.Parts, exprPart(m[2:len(m)-1], pos(s, at+2)))
			size += len(m) - 3
		default:
			if m[0] == '\\' {
				m = strings.NewReplacer(`\n`, "\n", `\t`, "\t", `\\`, `\`, `\"`, `"`, `\$`, `$`).Replace(m)
				at++
			}
			if n := len(t.Parts); n > 0 && !t.Parts[n-1].Expr {
				t.Parts[n-1].S += m
			} else {
				t.Parts = append(t.Parts, bytesPart(m))
			}
			size += len(m)
			at += len(m)
			continue
		}
		at += len(m)
	}
}

func agrees(t *testing.T, s string) {
	t.Helper()
	l, e, at := plainAll(s)
	if e == api.OK {
		has(t, s, l...)
	} else {
		fails(t, s, e, at)
	}
}

// P7.1: all pairs of bytes, within and outside of a string, held against regular expressions.
func TestPairs(t *testing.T) {
	for i := range 1 << 16 {
		s := string([]byte{byte(i >> 8), byte(i)})
		agrees(t, s)
		agrees(t, `a"`+s+`"`)
		agrees(t, `"${`+s+`}"`)
		if t.Failed() {
			return
		}
	}
}

// P7.1: rows of pieces of all kinds, held against regular expressions.
func TestRows(t *testing.T) {
	r := rand.New(rand.NewSource(7))
	some := []string{
		"a", "b_1", "_", "for", "0", "7", "10", "9223372036854775807", "9223372036854775808", "01", "1a", "A", "\xff", "\u00e4", "\r", "\x00",
		" ", " ", "\n", "\t", "#", "# c\n", "\"", "\"", "\"", "\"a\"", "\\", "\\n", "\\t", "\\$", "\\\"", "\\\\", "\\q", "$", "${", "${a}", "${ b }", "\"x${a}y\"",
		"{", "}", "[", "]", "(", ")", "=", ",", ".", ":", "?", "!", "<", ">", "+", "-", "*", "/", "%", "==", "!=", "<=", ">=", "&&", "||", "=>", "&", "|",
		strings.Repeat("n", 24), strings.Repeat("n", 25), strings.Repeat("\"", 2) + strings.Repeat("s ", 300), "\"" + strings.Repeat("${a}b", 512) + "\"",
	}
	good := 0
	for range 60000 {
		var b strings.Builder
		for range r.Intn(9) {
			b.WriteString(some[r.Intn(len(some))])
		}
		agrees(t, b.String())
		if _, e, _ := plainAll(b.String()); e == api.OK {
			good++
		}
		if t.Failed() {
			return
		}
	}
	if good < 6000 {
		t.Error("rows that are read:", good)
	}
}

// P7.2: places, at the beginning, the end, and beyond both.
func TestAt(t *testing.T) {
	for _, x := range []struct {
		s    string
		n    int
		want api.Pos
	}{
		{"", 0, at(0, 1, 1)}, {"", 1, at(0, 1, 1)}, {"", -1, at(0, 1, 1)},
		{"a\nb", 0, at(0, 1, 1)}, {"a\nb", 1, at(1, 1, 2)}, {"a\nb", 2, at(2, 2, 1)}, {"a\nb", 3, at(3, 2, 2)}, {"a\nb", 9, at(3, 2, 2)},
		{"a\nb", -1, at(0, 1, 1)}, {"a\nb", math.MinInt, at(0, 1, 1)}, {"a\nb", math.MaxInt, at(3, 2, 2)},
		{"\n\n", 1, at(1, 2, 1)}, {"\n\n", 2, at(2, 3, 1)}, {"\n\n", 3, at(2, 3, 1)},
		{"\n", -5, at(0, 1, 1)},
		{"\r\n\t\u00e4x", 3, at(3, 2, 2)}, {"\r\n\t\u00e4x", 4, at(4, 2, 3)}, {"\r\n\t\u00e4x", 5, at(5, 2, 4)},
		{"\r\v\f\u2028\x85", 7, at(7, 1, 8)},
	} {
		if p := At(x.s, x.n); p != x.want {
			t.Errorf("At(%q, %d) = %v; want %v", x.s, x.n, p, x.want)
		}
	}
	r := rand.New(rand.NewSource(8))
	for range 500 {
		b := make([]byte, r.Intn(60))
		for i := range b {
			b[i] = "a\n\n\r\"#\xff "[r.Intn(8)]
		}
		for i := range len(b) + 1 {
			if p := At(string(b), i); p != pos(string(b), i) {
				t.Fatalf("At(%q, %d) = %v; want %v", b, i, p, pos(string(b), i))
			}
		}
	}
	// A text may be longer than one that is read.
	long := strings.Repeat("ab\n", 40000)
	if p := At(long, 119999); p != at(119999, 40000, 3) {
		t.Error(p)
	}
}

// P7.2: what Quote writes, and that it is read again.
func TestQuote(t *testing.T) {
	for s, want := range map[string]string{
		"": `""`, "a": `"a"`, "\"": `"\""`, "\\": `"\\"`, "\n": `"\n"`, "\t": `"\t"`, "$": `"\$"`,
		"a\"$\n": `"a\"\$\n"`, "${a}": `"\${a}"`, "{}": `"{}"`, `\n`: `"\\n"`, "n t": `"n t"`, "$$": `"\$\$"`,
		"\r\x00\xff\u00e4": "\"\r\x00\xff\u00e4\"", "\n\n": `"\n\n"`,
	} {
		if q := Quote(s); q != want {
			t.Errorf("Quote(%q) = %s; want %s", s, q, want)
		}
	}
	read := func(s string) {
		t.Helper()
		q := Quote(s)
		has(t, q, tokStr(at(0, 1, 1), bytesPart(s)), tokEnd(at(len(q), 1, len(q)+1)))
	}
	for i := range 1 << 16 {
		read(string([]byte{byte(i >> 8), byte(i)}))
	}
	for i := range 256 {
		c := string([]byte{byte(i)})
		if q := Quote(c); strings.Contains("\"\\\n\t$", c) != (q[1] == '\\') {
			t.Errorf("Quote(%q) = %s", c, q)
		}
		read(strings.Repeat(c, 1024))
	}
	if q := Quote(strings.Repeat("$", 5000)); q != `"`+strings.Repeat(`\$`, 5000)+`"` {
		t.Error(len(q))
	}
}

// P7.2: tokens that differ in one field, and lists that are nothing.
func TestSame(t *testing.T) {
	l := []api.Tok{
		{}, {Kind: 1}, {Kind: -1}, {S: "a"}, {S: "b"}, {N: 1}, {N: -1},
		{Pos: at(1, 0, 0)}, {Pos: at(0, 1, 0)}, {Pos: at(0, 0, 1)},
		{Parts: []api.Part{{}}}, {Parts: []api.Part{{}, {}}}, {Parts: []api.Part{{Expr: true}}}, {Parts: []api.Part{{S: "a"}}},
		{Parts: []api.Part{{Pos: at(1, 0, 0)}}}, {Parts: []api.Part{{Pos: at(0, 1, 0)}}}, {Parts: []api.Part{{Pos: at(0, 0, 1)}}},
		{Parts: []api.Part{{S: "a"}, {S: "b"}}}, {Parts: []api.Part{{S: "b"}, {S: "a"}}}, {Parts: []api.Part{{S: "a"}, {S: "c"}}},
		{Kind: api.TokStr, S: "a", N: 1, Parts: []api.Part{{S: "a"}}, Pos: at(1, 1, 2)},
	}
	for i, a := range l {
		for j, b := range l {
			b.Parts = append(make([]api.Part, 0, 8), b.Parts...)
			if Same(a, b) != (i == j) || Same(b, a) != (i == j) {
				t.Errorf("Same(%v, %v) = %v", a, b, Same(a, b))
			}
		}
	}
	if !Same(api.Tok{}, api.Tok{Parts: []api.Part{}}) || !Same(api.Tok{Parts: []api.Part{}}, api.Tok{}) {
		t.Error("nothing is the same everywhere")
	}
}

// R4, R6: what is answered is new each time, and no two lists of it share any.
func TestNewMemory(t *testing.T) {
	const s = `"a${b}" "c" "d${e}f" g`
	first, _ := All(s)
	again, _ := All(s)
	for i := range first {
		parts := first[i].Parts
		for j := range parts {
			parts[j] = api.Part{S: "other"}
		}
		clear(parts[len(parts):cap(parts)])
		_ = append(parts, api.Part{S: "behind"})
		first[i] = api.Tok{Kind: i, S: "other", Parts: parts}
		for j := i + 1; j < len(first); j++ {
			if !Same(first[j], again[j]) {
				t.Errorf("the token %d hangs on the token %d", j, i)
			}
		}
	}
	third, _ := All(s)
	if !sameToks(again, third) {
		t.Error(again, third)
	}
}
