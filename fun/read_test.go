package fun

import (
	"fmt"
	"math"
	"slices"
	"strings"
	"testing"

	"surety/api"
	"surety/expr"
	"surety/typ"
	"surety/value"
)

// chapter is the table of functions as the chapter has it: the names, the types of their arguments, and of what they answer.
const chapter = `| abs | int | int |
| all | list(bool) | bool |
| any | list(bool) | bool |
| compact | list | list |
| concat | list .. | list |
| distinct | list | list |
| element | list, int | any |
| ends | str, str | bool |
| first | any .. | any |
| flatten | list | list |
| has | any, any | bool |
| hash | str | str |
| index | list, any | int |
| join | str, list(str) | str |
| keys | map | list(str) |
| length | any | int |
| lookup | map, str, any | any |
| lower | str | str |
| max | int .. | int |
| merge | map .. | map |
| min | int .. | int |
| number | any | int |
| omit | map, list(str) | map |
| one | list | any |
| pick | map, list(str) | map |
| range | int, int | list(int) |
| repeat | str, int | str |
| replace | str, str, str | str |
| reverse | list | list |
| sign | int | int |
| slice | list, int, int | list |
| sort | list(str) | list(str) |
| split | str, str | list(str) |
| starts | str, str | bool |
| substr | str, int, int | str |
| sum | list(int) | int |
| text | any | str |
| trim | str | str |
| truth | any | bool |
| upper | str | str |
| values | map | list |
| zip | list(str), list | map |`

// row is a line of the chapter's table.
type row struct {
	name    string
	of      []string
	many    bool
	answers string
}

func rows() []row {
	var l []row
	for line := range strings.SplitSeq(chapter, "\n") {
		cells := strings.Split(strings.Trim(line, "| "), " | ")
		r := row{name: cells[0], answers: cells[2]}
		cells[1], r.many = strings.CutSuffix(cells[1], " ..")
		r.of = strings.Split(cells[1], ", ")
		l = append(l, r)
	}
	return l
}

func rowOf(name string) row {
	l := rows()
	return l[slices.IndexFunc(l, func(r row) bool { return r.name == name })]
}

// at is the type of the argument at a place.
func (r row) at(i int) string {
	if r.many {
		return r.of[0]
	}
	return r.of[i]
}

func unknown(text string) api.Value {
	t, e := typ.Parse(text)
	if e != api.OK {
		panic(text)
	}
	return value.Unknown(t)
}

var null = api.Value{}

// literal is the value of an expression: of literals, of u("a type") which is unknown, and of m(a value) which is marked.
func literal(e api.Expr) api.Value {
	var l []api.Value
	var keys []string
	switch {
	case e.Op == api.ExLit:
		return e.V
	case e.Op == api.ExNeg:
		return value.Int(-e.L[0].V.I)
	case e.Op == api.ExList:
		for _, x := range e.L {
			l = append(l, literal(x))
		}
		return value.List(l...)
	case e.Op == api.ExMap:
		for i := 0; i < len(e.L); i += 2 {
			keys, l = append(keys, e.L[i].V.S), append(l, literal(e.L[i+1]))
		}
		v, err := value.Make(keys, l)
		if err != api.OK {
			panic(keys)
		}
		return v
	case e.Op == api.ExCall && e.S == "m":
		return value.Mark(literal(e.L[0]))
	case e.Op == api.ExCall && e.S == "u":
		return unknown(e.L[0].V.S)
	}
	panic(e)
}

func parse(s string) api.Expr {
	e, d := expr.Parse(s)
	if d.Code != api.OK {
		panic(fmt.Sprint(s, d))
	}
	return e
}

// read is the value that a text tells.
func read(s string) api.Value { return literal(parse(s)) }

// call is the function, and its arguments, that a text tells.
func call(s string) (name string, args []api.Value) {
	e := parse(s)
	for _, x := range e.L {
		args = append(args, literal(x))
	}
	return e.S, args
}

// brief is the beginning of a text.
func brief(x any) string {
	s := fmt.Sprint(x)
	return s[:min(len(s), 200)]
}

// answers holds what a call answers.
func answers(t *testing.T, name string, args []api.Value, want api.Value, e api.Errno) {
	t.Helper()
	if v, f := Call(name, args); !value.Same(v, want) || f != e {
		t.Errorf("Call(%.20q, %s) = %s, %d; want %s, %d", name, brief(args), brief(v), f, brief(want), e)
	}
}

// places are all values in v, v itself first, each with a function that gives v with another value there.
func places(v api.Value) []place {
	l := []place{{v, func(x api.Value) api.Value { return x }}}
	for i, x := range v.L {
		for _, p := range places(x) {
			l = append(l, place{p.v, func(y api.Value) api.Value {
				w := value.Copy(v)
				w.L[i] = p.with(y)
				return w
			}})
		}
	}
	return l
}

type place struct {
	v    api.Value
	with func(x api.Value) api.Value
}

// changed are args with f of each value in them in its place, one at a time.
func changed(args []api.Value, f func(v api.Value) api.Value) [][]api.Value {
	var l [][]api.Value
	for i, a := range args {
		for _, p := range places(a) {
			l = append(l, put(args, i, p.with(f(p.v))))
		}
	}
	return l
}

// put is args with another one at a place.
func put(args []api.Value, i int, v api.Value) []api.Value {
	args = slices.Clone(args)
	args[i] = v
	return args
}

// bad are values that may not be.
func bad() []api.Value {
	return []api.Value{
		{Kind: -1}, {Kind: 99}, {Kind: math.MinInt}, {I: 1}, {S: "a"}, {Kind: api.VBool, I: 2}, {Kind: api.VInt, S: "a"}, {Kind: api.VStr, I: 1},
		value.Str(strings.Repeat("x", api.MaxStr+1)), value.Unknown(api.Type{Kind: 9}), value.Unknown(api.Type{Kind: api.Int, Of: api.Int}),
		nested(api.MaxDepth, null), nested(1<<16-2, value.Int(1)), value.List(make([]api.Value, api.MaxItems+1)...), value.List(bulk(), bulk(), bulk(), bulk()),
		{Kind: api.VMap, Keys: []string{"a"}}, {Kind: api.VMap, Keys: []string{"b", "a"}, L: make([]api.Value, 2)}, {Kind: api.VMap, Keys: []string{"a", "a"}, L: make([]api.Value, 2)},
		value.List(api.Value{I: 1}), {Kind: api.VUnknown, T: api.Type{Kind: 7}, Secret: true},
	}
}

func nested(n int, v api.Value) api.Value {
	for range n {
		v = api.Value{Kind: api.VList, L: []api.Value{v}}
	}
	return v
}

// ints are n numbers.
func ints(n int) api.Value {
	var l []api.Value
	for i := range n {
		l = append(l, value.Int(int64(i)))
	}
	return value.List(l...)
}

// bulk is a list as long as one may be.
func bulk() api.Value { return ints(api.MaxItems) }

// names are n texts, that rise.
func names(n int) api.Value {
	var l []api.Value
	for i := range n {
		l = append(l, value.Str(fmt.Sprintf("k%03d", i)))
	}
	return value.List(l...)
}

// dict is a map of n keys from one on.
func dictOf(from, n int) api.Value {
	var keys []string
	var l []api.Value
	for i := range n {
		keys, l = append(keys, fmt.Sprintf("k%03d", from+i)), append(l, value.Int(int64(from+i)))
	}
	return api.Value{Kind: api.VMap, Keys: keys, L: l}
}
