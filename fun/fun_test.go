package fun

import (
	"slices"
	"strings"
	"testing"

	"surety/api"
	"surety/typ"
	"surety/value"
)

// noNames are texts that no function has as its name.
func noNames() []string {
	l := []string{"", " ", "\n", "..", "int", "abs int", "abs int int", "abs\n", " abs", "Abs", "ABS", "ab", "absx", "abs\x00", "bool", "list(bool)", "nope", "for", "\xff", "zip\n", "zip map", "\nall", strings.Repeat("abs", 100000)}
	for _, r := range rows() {
		l = append(l, r.name+"s", r.name[1:], strings.ToUpper(r.name), r.name+" ", r.name+"()", r.name+"\n", r.name+" "+r.answers)
	}
	return l
}

// P13.1: the names, in their order, and each time in new memory.
func TestNames(t *testing.T) {
	var want []string
	for _, r := range rows() {
		want = append(want, r.name)
	}
	l := Names()
	if !slices.Equal(l, want) || len(l) != 42 || !slices.IsSorted(l) {
		t.Fatal(l)
	}
	clear(l[:cap(l)])
	if l := Names(); !slices.Equal(l, want) {
		t.Error("changed from outside:", l)
	}
}

// P13.1: the type that each function answers.
func TestResult(t *testing.T) {
	for _, r := range rows() {
		if ty, e := Result(r.name); typ.Text(ty) != r.answers || e != api.OK {
			t.Errorf("Result(%s) = %v, %d", r.name, ty, e)
		}
	}
	for _, s := range noNames() {
		if ty, e := Result(s); ty != (api.Type{}) || e != api.ErrName {
			t.Errorf("Result(%.20q) = %v, %d", s, ty, e)
		}
	}
}

// P13.2: that there is no such function is told ahead of all else.
func TestNoName(t *testing.T) {
	for _, s := range noNames() {
		for _, args := range [][]api.Value{nil, {}, {value.Int(1)}, {value.Mark(unknown("any"))}, {{Kind: 99}}, make([]api.Value, 1000)} {
			answers(t, s, args, null, api.ErrName)
		}
	}
}

// P13.2: how many arguments a function takes; that is told ahead of what they are.
func TestHowMany(t *testing.T) {
	for _, r := range rows() {
		for n := range 9 {
			for _, v := range []api.Value{null, value.Mark(value.Int(1)), unknown("any"), {Kind: 99}} {
				args := slices.Repeat([]api.Value{v}, n)
				if takes := r.many || n == len(r.of); takes {
					if _, e := Call(r.name, args); e == api.ErrArg && v.Kind != 99 && n > 0 {
						t.Errorf("%s of %d: ErrArg", r.name, n)
					}
					continue
				}
				answers(t, r.name, args, null, api.ErrArg)
			}
		}
		if !r.many {
			answers(t, r.name, make([]api.Value, 100000), null, api.ErrArg)
		}
	}
}

// P13.2: any number of arguments.
func TestMany(t *testing.T) {
	const n = 100000
	many := func(v, last api.Value) []api.Value {
		return append(slices.Repeat([]api.Value{v}, n), last)
	}
	answers(t, "concat", many(value.List(), value.List(value.Int(1))), value.List(value.Int(1)), api.OK)
	answers(t, "first", many(null, value.Int(1)), value.Int(1), api.OK)
	answers(t, "max", many(value.Int(1), value.Int(2)), value.Int(2), api.OK)
	answers(t, "min", many(value.Int(1), value.Int(0)), value.Int(0), api.OK)
	answers(t, "merge", many(dictOf(0, 2), dictOf(1, 2)), dictOf(0, 3), api.OK)
	answers(t, "max", many(value.Int(1), value.Mark(value.Int(2))), value.Mark(value.Int(2)), api.OK)
	answers(t, "max", many(value.Int(1), unknown("str")), unknown("int"), api.OK)
	answers(t, "max", many(value.Int(1), null), null, api.ErrType)
	answers(t, "max", many(value.Int(1), api.Value{Kind: 9}), null, api.ErrArg)
}

// P13.2: an argument that may not be, in each place of each call, whatever else is wrong or unknown.
func TestMayNotBe(t *testing.T) {
	for _, g := range goods() {
		for _, b := range bad() {
			for _, l := range changed(g.args, func(api.Value) api.Value { return b }) {
				answers(t, g.name, l, null, api.ErrArg)
			}
			for i := range g.args {
				for j := range g.args {
					if i != j {
						answers(t, g.name, put(put(g.args, i, b), j, unknown("any")), null, api.ErrArg)
						answers(t, g.name, put(put(g.args, i, b), j, value.Mark(null)), null, api.ErrArg)
					}
				}
			}
		}
	}
}

// P13.2: something unknown in any place of each call: what is answered is unknown, of the type, whatever else would be wrong but for what may not be.
func TestUnknown(t *testing.T) {
	for _, g := range goods() {
		want := unknown(rowOf(g.name).answers)
		for _, ty := range typ.All() {
			u := value.Unknown(ty)
			for _, l := range changed(g.args, func(api.Value) api.Value { return u }) {
				answers(t, g.name, l, want, api.OK)
			}
			for _, l := range changed(g.args, func(api.Value) api.Value { return value.Mark(u) }) {
				answers(t, g.name, l, value.Mark(want), api.OK)
			}
			for i := range g.args {
				for j := range g.args {
					if i != j {
						answers(t, g.name, put(put(g.args, i, u), j, null), want, api.OK)
						answers(t, g.name, put(put(g.args, i, u), j, value.Mark(value.List(null))), value.Mark(want), api.OK)
					}
				}
			}
		}
	}
	for in, want := range map[string]string{
		`max(1, u("int"))`:               `u("int")`,
		`max(u("str"), null)`:            `u("int")`,
		`first(1, u("int"))`:             `u("any")`,
		`first(null, [u("int")])`:        `u("any")`,
		`length([u("int"), 2])`:          `u("int")`,
		`keys({a = u("int")})`:           `u("list(str)")`,
		`values({a = [[u("any")]]})`:     `u("list")`,
		`lookup({a = 1}, "a", u("int"))`: `u("any")`,
		`element([u("int"), 2], -1)`:     `u("any")`,
		`range(0, u("int"))`:             `u("list(int)")`,
		`split("", u("str"))`:            `u("list(str)")`,
		`zip(["a", "a"], [u("any")])`:    `u("map")`,
		`any([true, u("bool")])`:         `u("bool")`,
		`all([false, u("bool")])`:        `u("bool")`,
		`concat([1], m(u("list")))`:      `m(u("list"))`,
		`concat([m(1)], u("list"))`:      `m(u("list"))`,
		`pick({a = m(1)}, u("any"))`:     `m(u("map"))`,
		`hash(u("str"))`:                 `u("str")`,
		`has([u("int")], 1)`:             `u("bool")`,
	} {
		name, args := call(in)
		answers(t, name, args, read(want), api.OK)
	}
}

// each has a value of each kind, and of each type.
func each() []api.Value {
	var l []api.Value
	for _, s := range []string{`null`, `true`, `1`, `"a"`, `[]`, `[null]`, `[true]`, `[1]`, `["a"]`, `[[]]`, `[{}]`, `["a", 1]`, `["a", null]`, `[true, 1]`, `{}`, `{a = null}`, `{a = 1}`, `{a = "a"}`, `{a = []}`, `[["a"]]`} {
		l = append(l, read(s))
	}
	return l
}

// ofType are those texts of each whose values are of a type.
const ofType = `any: null true 1 "a" [] [null] [true] [1] ["a"] [[]] [{}] ["a",1] ["a",null] [true,1] {} {a=null} {a=1} {a="a"} {a=[]} [["a"]]
bool: true
int: 1
str: "a"
list: [] [null] [true] [1] ["a"] [[]] [{}] ["a",1] ["a",null] [true,1] [["a"]]
list(bool): [] [true]
list(int): [] [1]
list(str): [] ["a"]
map: {} {a=null} {a=1} {a="a"} {a=[]}`

// P13.2: an argument that is of another type is told ahead of what the table says, and one that is of its type isn't ErrType; in each place of each function.
func TestTypes(t *testing.T) {
	are := map[string][]api.Value{}
	for line := range strings.SplitSeq(ofType, "\n") {
		ty, texts, _ := strings.Cut(line, ": ")
		for s := range strings.SplitSeq(texts, " ") {
			are[ty] = append(are[ty], read(s))
		}
	}
	for _, g := range goods() {
		r := rowOf(g.name)
		for i := range g.args {
			for _, v := range each() {
				isOf := slices.ContainsFunc(are[r.at(i)], func(x api.Value) bool { return value.Same(x, v) })
				args := put(g.args, i, v)
				if _, e := Call(g.name, args); !isOf {
					answers(t, g.name, args, null, api.ErrType)
					answers(t, g.name, put(args, i, value.Mark(v)), null, api.ErrType)
				} else if e == api.ErrType && !strings.Contains(" has length number text truth ", g.name) {
					t.Errorf("%s of %s: ErrType", g.name, brief(args))
				}
			}
		}
	}
	for in, e := range map[string]api.Errno{
		`element([], null)`:                   api.ErrType,
		`element(null, -1)`:                   api.ErrType,
		`max(1, true)`:                        api.ErrType,
		`max(null)`:                           api.ErrType,
		`repeat(null, -1)`:                    api.ErrType,
		`replace("a", "", 1)`:                 api.ErrType,
		`range("a", 500)`:                     api.ErrType,
		`slice(["a"], -1, "a")`:               api.ErrType,
		`split("", ["a"])`:                    api.ErrType,
		`substr("a", -1, null)`:               api.ErrType,
		`zip(["a", "a", null], [1])`:          api.ErrType,
		`zip([1], [])`:                        api.ErrType,
		`sum([9223372036854775807, 1, null])`: api.ErrType,
		`all([false, null])`:                  api.ErrType,
		`any([true, 1])`:                      api.ErrType,
		`concat([], {})`:                      api.ErrType,
		`merge({}, null)`:                     api.ErrType,
		`omit({}, ["a", m(null)])`:            api.ErrType,
		`join("a", [["a"]])`:                  api.ErrType,
	} {
		name, args := call(in)
		answers(t, name, args, null, e)
	}
}

// P13.2: what would be answered may not be: at each limit, and one step beyond.
func TestTooMuch(t *testing.T) {
	list, str := value.List, value.Str
	x := func(n int) api.Value { return str(strings.Repeat("x", n)) }
	l := func(args ...api.Value) []api.Value { return args }
	commas := func(n int) api.Value { return str(strings.Repeat(",", n)) }
	// Four lists of so many that all weigh as much as a value may.
	heavy := func(n int) api.Value { return list(ints(n), ints(127), ints(127), ints(127)) }
	for _, c := range []struct {
		name string
		args []api.Value
		e    api.Errno
	}{
		{"concat", l(bulk(), list()), api.OK},
		{"concat", l(bulk(), list(null)), api.ErrLong},
		{"concat", l(bulk(), bulk(), bulk()), api.ErrLong},
		{"concat", l(list(ints(126), ints(126), ints(126)), list(ints(126), null, null, null)), api.OK},
		{"concat", l(list(ints(126), ints(126), ints(126)), list(ints(127), null, null)), api.OK},
		{"concat", l(list(ints(126), ints(126), ints(126)), list(ints(126), null, null, null, null)), api.ErrLong},
		{"concat", l(heavy(100), heavy(100)), api.ErrLong},
		{"flatten", l(list(ints(64), ints(64))), api.OK},
		{"flatten", l(list(ints(64), ints(64), null)), api.ErrLong},
		{"flatten", l(heavy(1)), api.ErrLong},
		{"join", l(str(""), list(x(512), x(512))), api.OK},
		{"join", l(str("-"), list(x(512), x(512))), api.ErrLong},
		{"join", l(str("-"), list(x(511), x(512))), api.OK},
		{"join", l(x(1024), list(x(1024))), api.OK},
		{"join", l(x(1024), list(str(""), str(""))), api.OK},
		{"join", l(x(1024), list(str(""), str(""), str(""))), api.ErrLong},
		{"join", l(x(1024), list(slices.Repeat(l(x(1024)), 128)...)), api.ErrLong},
		{"merge", l(dictOf(0, 100), dictOf(100, 28)), api.OK},
		{"merge", l(dictOf(0, 128), dictOf(0, 128), dictOf(0, 128)), api.OK},
		{"merge", l(dictOf(0, 100), dictOf(100, 29)), api.ErrLong},
		{"merge", l(dictOf(0, 128), dictOf(128, 128)), api.ErrLong},
		{"range", l(value.Int(0), value.Int(128)), api.OK},
		{"range", l(value.Int(-64), value.Int(64)), api.OK},
		{"range", l(value.Int(0), value.Int(129)), api.ErrLong},
		{"repeat", l(str("a"), value.Int(1024)), api.OK},
		{"repeat", l(str("ab"), value.Int(512)), api.OK},
		{"repeat", l(str("abc"), value.Int(341)), api.OK},
		{"repeat", l(str("abc"), value.Int(342)), api.ErrLong},
		{"repeat", l(x(1024), value.Int(1)), api.OK},
		{"repeat", l(x(1024), value.Int(0)), api.OK},
		{"repeat", l(x(1024), value.Int(2)), api.ErrLong},
		{"repeat", l(x(1024), value.Int(1024)), api.ErrLong},
		{"replace", l(str("ab"), str("a"), x(1023)), api.OK},
		{"replace", l(str("ab"), str("a"), x(1024)), api.ErrLong},
		{"replace", l(x(1024), str("x"), x(1024)), api.ErrLong},
		{"replace", l(x(1024), str("x"), str("y")), api.OK},
		{"replace", l(x(1024), x(1024), x(1024)), api.OK},
		{"split", l(str(","), commas(127)), api.OK},
		{"split", l(str(","), commas(128)), api.ErrLong},
		{"split", l(str(","), commas(1024)), api.ErrLong},
		{"keys", l(dictOf(0, 128)), api.OK},
		{"values", l(dictOf(0, 128)), api.OK},
		{"zip", l(names(128), bulk()), api.OK},
		{"distinct", l(bulk()), api.OK},
		{"reverse", l(list(heavy(100).L...)), api.OK},
		{"hash", l(x(1024)), api.OK},
		{"first", l(null, nested(7, value.Int(1))), api.OK},
		{"one", l(nested(7, value.Int(1))), api.OK},
		{"sort", l(list(slices.Repeat(l(x(1024)), 128)...)), api.OK},
	} {
		v, e := Call(c.name, c.args)
		if e != c.e {
			t.Errorf("%s(%s): %d; want %d", c.name, brief(c.args), e, c.e)
		}
		if e != api.OK && !value.Same(v, null) || value.Check(v) != api.OK {
			t.Errorf("%s(%s): %s", c.name, brief(c.args), brief(v))
		}
	}
	// What is wrong besides comes ahead of what is too long.
	twice := names(128)
	twice.L[127] = twice.L[0]
	answers(t, "zip", l(twice, bulk()), null, api.ErrTwice)
	answers(t, "concat", l(bulk(), bulk(), null), null, api.ErrType)
}

// P13.3: each mark, in any place, marks what is answered itself, and nothing in it; marks change nothing else.
func TestMarks(t *testing.T) {
	for _, g := range goods() {
		want := value.Mark(g.v)
		for _, l := range changed(g.args, value.Mark) {
			answers(t, g.name, l, want, api.OK)
		}
		if all := slices.Clone(g.args); len(all) > 0 {
			for i := range all {
				all[i] = marked(all[i])
			}
			answers(t, g.name, all, want, api.OK)
		}
	}
	for in, want := range map[string]string{
		`length(m("abc"))`:                  `m(3)`,
		`length([1, m(2)])`:                 `m(2)`,
		`length([[1, {a = m(2)}]])`:         `m(1)`,
		`distinct([1, m(1), m(2), 2])`:      `m([1, 2])`,
		`distinct([[m(1)], [1]])`:           `m([[1]])`,
		`index([m(1), 2], 1)`:               `m(0)`,
		`has([m(1)], 1)`:                    `m(true)`,
		`has([1], m(2))`:                    `m(false)`,
		`first(1, m(2))`:                    `m(1)`,
		`first(m(null), 2)`:                 `m(2)`,
		`lookup({a = 1, b = m(2)}, "a", 3)`: `m(1)`,
		`lookup({a = 1}, m("a"), 3)`:        `m(1)`,
		`element([1, m(2)], 0)`:             `m(1)`,
		`concat([m(1)], [2])`:               `m([1, 2])`,
		`compact([1, m(null), m("")])`:      `m([1])`,
		`one(m([]))`:                        `m(null)`,
		`one([m(null)])`:                    `m(null)`,
		`keys({a = m(1)})`:                  `m(["a"])`,
		`zip([m("a")], [1])`:                `m({a = 1})`,
		`all([false, m(true)])`:             `m(false)`,
		`text(m(1))`:                        `m("1")`,
		`max(3, m(1))`:                      `m(3)`,
	} {
		name, args := call(in)
		answers(t, name, args, read(want), api.OK)
	}
}

// marked is v, with each value in it marked.
func marked(v api.Value) api.Value {
	v = value.Mark(v)
	for i := range v.L {
		v.L[i] = marked(v.L[i])
	}
	return v
}

// P13.2: what is answered is of the type that Result tells, and may be.
func TestAnswersFit(t *testing.T) {
	for _, g := range goods() {
		ty, _ := Result(g.name)
		if v, e := Call(g.name, g.args); e != api.OK || !value.Fits(v, ty) || value.Check(v) != api.OK || value.Secret(v) {
			t.Errorf("%s(%s) = %s, %d", g.name, brief(g.args), brief(v), e)
		}
	}
}

// spoil changes all that a value's lists hold, the room behind their length too.
func spoil(v api.Value) {
	for _, x := range v.L {
		spoil(x)
	}
	for i := range v.L[:cap(v.L)] {
		v.L[:cap(v.L)][i] = value.Str("spoilt")
	}
	for i := range v.Keys[:cap(v.Keys)] {
		v.Keys[:cap(v.Keys)][i] = "spoilt"
	}
}

// roomy is v with room behind each list, that holds what may not be.
func roomy(v api.Value) api.Value {
	l, keys := make([]api.Value, 0, len(v.L)+2), make([]string, 0, len(v.Keys)+2)
	for _, x := range v.L {
		l = append(l, roomy(x))
	}
	keys = append(keys, v.Keys...)
	for i := range 2 {
		l[:cap(l)][len(l)+i] = api.Value{Kind: 77}
		keys[:cap(keys)][len(keys)+i] = "behind"
	}
	v.L, v.Keys = l, keys
	return v
}

// R4: a call changes no argument and not the room behind it, and what it answers is new memory, no two lists of which are one.
func TestMemory(t *testing.T) {
	for _, g := range goods() {
		var args, copies []api.Value
		for _, v := range g.args {
			args, copies = append(args, roomy(v)), append(copies, value.Copy(v))
		}
		v, _ := Call(g.name, args)
		for i, a := range args {
			if !value.Same(a, copies[i]) || !isRoomy(a) {
				t.Fatalf("%s changed %s", g.name, brief(copies))
			}
		}
		for _, p := range places(v) {
			before := value.Copy(v)
			spoil(p.v)
			for i, a := range args {
				if !value.Same(a, copies[i]) || !isRoomy(a) {
					t.Fatalf("%s(%s) shares memory with what it answers", g.name, brief(copies))
				}
			}
			v = before
			break
		}
		w, _ := Call(g.name, args)
		for _, a := range args {
			spoil(a)
		}
		if !value.Same(w, g.v) {
			t.Fatalf("%s(%s) is changed from outside: %s", g.name, brief(copies), brief(w))
		}
	}
	// One list as two arguments, and twice in one.
	one := value.List(value.List(value.Int(1)))
	for _, c := range []struct {
		name string
		args []api.Value
	}{
		{"concat", []api.Value{one, one}},
		{"flatten", []api.Value{{Kind: api.VList, L: []api.Value{one, one}}}},
		{"reverse", []api.Value{{Kind: api.VList, L: []api.Value{one.L[0], one.L[0]}}}},
		{"zip", []api.Value{names(2), {Kind: api.VList, L: []api.Value{one.L[0], one.L[0]}}}},
	} {
		v, e := Call(c.name, c.args)
		if e != api.OK || len(v.L) != 2 {
			t.Fatal(c.name, v, e)
		}
		spoil(v.L[0])
		if v.L[1].L[0].I != 1 || one.L[0].L[0].I != 1 {
			t.Errorf("%s: two lists are one", c.name)
		}
	}
}

// isRoomy tells whether the room behind each list is as roomy left it.
func isRoomy(v api.Value) bool {
	for _, x := range v.L {
		if !isRoomy(x) {
			return false
		}
	}
	l, keys := v.L[len(v.L):cap(v.L)], v.Keys[len(v.Keys):cap(v.Keys)]
	return len(l) == 2 && l[0].Kind == 77 && l[1].Kind == 77 && len(keys) == 2 && keys[0] == "behind" && keys[1] == "behind"
}

// R6: the same call answers the same, whatever was called between.
func TestAgain(t *testing.T) {
	l := goods()
	slices.Reverse(l)
	for range 2 {
		for _, g := range l {
			answers(t, g.name, g.args, g.v, api.OK)
			Call(g.name, nil)
			Call("nope", g.args)
		}
	}
}
