package eval

import (
	"fmt"
	"strconv"
	"strings"
	"testing"

	"surety/api"
	"surety/expr"
	"surety/typ"
	"surety/value"
)

var null = api.Value{}

// literal is the value of an expression: of literals, of u("a type") which is unknown, and of m(a value) which is marked.
func literal(e api.Expr) api.Value {
	var l []api.Value
	var keys []string
	switch {
	case e.Op == api.ExLit:
		return e.V
	case e.Op == api.ExNeg:
		return value.Int(-e.L[0].V.I)
	case e.Op == api.ExList:
		for _, x := range e.L {
			l = append(l, literal(x))
		}
		return value.List(l...)
	case e.Op == api.ExMap:
		for i := 0; i < len(e.L); i += 2 {
			keys, l = append(keys, e.L[i].V.S), append(l, literal(e.L[i+1]))
		}
		v, err := value.Make(keys, l)
		if err != api.OK {
			panic(keys)
		}
		return v
	case e.Op == api.ExCall && e.S == "m":
		return value.Mark(literal(e.L[0]))
	case e.Op == api.ExCall && e.S == "u":
		ty, err := typ.Parse(e.L[0].V.S)
		if err != api.OK {
			panic(e.L[0].V.S)
		}
		return value.Unknown(ty)
	}
	panic(e)
}

func parse(s string) api.Expr {
	e, d := expr.Parse(s)
	if d.Code != api.OK {
		panic(fmt.Sprint(s, d))
	}
	return e
}

// read is the value that a text tells.
func read(s string) api.Value { return literal(parse(s)) }

// binds are the names that a text tells, a line each: a name, a blank, its value.
func binds(s string) []api.Bind {
	var l []api.Bind
	for line := range strings.Lines(s) {
		name, v, _ := strings.Cut(line, " ")
		l = append(l, api.Bind{Name: name, V: read(v)})
	}
	return l
}

// names are those that the tables' expressions ask for. The name n stands there twice.
func names() []api.Bind {
	return binds(`n 9
n 3
one 1
least -9223372036854775807
t true
f false
s "ab"
z null
e []
l [4, 5]
d {a = 1, k = m("s")}
dd {x = {y = [7]}}
le [4, m(5)]
part [1, u("int")]
u u("any")
ub u("bool")
ui u("int")
us u("str")
ul u("list")
uli u("list(int)")
uls u("list(str)")
um u("map")
umi u("map(int)")
mn m(3)
mt m(true)
mf m(false)
ms m("ab")
mz m(null)
me m([])
ml m([4, 5])
md m({a = 1})
mu m(u("any"))
mub m(u("bool"))
mui m(u("int"))
mus m(u("str"))
mul m(u("list"))
mum m(u("map"))
`)
}

// brief is the beginning of a text.
func brief(x any) string {
	s := fmt.Sprint(x)
	return s[:min(len(s), 300)]
}

// worths holds the values of expressions: of each line the expression, =>, a value.
func worths(t *testing.T, lines string) {
	t.Helper()
	for line := range strings.Lines(lines) {
		line = strings.TrimSpace(line)
		if line == "" {
			continue
		}
		i := strings.LastIndex(line, " => ")
		in, want := line[:i], read(line[i+4:])
		if v, d := Eval(parse(in), names()); d != (api.Diag{}) || !value.Same(v, want) {
			t.Errorf("%s = %s, %v; want %s", in, brief(v), d, line[i+4:])
		}
	}
}

// codes are the errors by the words of the tests.
var codes = map[string]api.Errno{
	"arg": api.ErrArg, "long": api.ErrLong, "form": api.ErrForm, "over": api.ErrOver, "zero": api.ErrZero, "type": api.ErrType, "name": api.ErrName, "twice": api.ErrTwice, "none": api.ErrNone,
}

// faults holds what is wrong with expressions: of each line the expression, =>, the error, the bytes ahead of its place, and What.
func faults(t *testing.T, lines string) {
	t.Helper()
	for line := range strings.Lines(lines) {
		line = strings.TrimSpace(line)
		if line == "" {
			continue
		}
		i := strings.LastIndex(line, " => ")
		words := append(strings.Fields(line[i+4:]), "")
		at, err := strconv.Atoi(words[1])
		code, ok := codes[words[0]]
		if err != nil || !ok {
			t.Fatal(line)
		}
		wrongly(t, parse(line[:i]), names(), api.Diag{Code: code, Pos: api.Pos{At: at, Line: 1, Col: at + 1}, What: words[2]})
	}
}

// wrongly holds the Diag of an expression, beside which there is nothing.
func wrongly(t *testing.T, e api.Expr, names []api.Bind, want api.Diag) {
	t.Helper()
	if v, d := Eval(e, names); d != want || !value.Same(v, null) {
		t.Errorf("%s = %s, %v; want %v", brief(e), brief(v), d, want)
	}
	if known, holds, d := Truth(e, names); known || holds || d != want {
		t.Errorf("Truth(%s) = %t, %t, %v; want %v", brief(e), known, holds, d, want)
	}
}
