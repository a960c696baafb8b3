package eval

import (
	"strings"
	"testing"

	"surety/api"
	"surety/expr"
	"surety/value"
)

// P14.1: literals and names, the last one of those that are one.
func TestNames(t *testing.T) {
	worths(t, `
null => null
true => true
0 => 0
9223372036854775807 => 9223372036854775807
"" => ""
"a\n\"" => "a\n\""
n => 3
z => null
d => {a = 1, k = m("s")}
le => [4, m(5)]
mu => m(u("any"))
uli => u("list(int)")
`)
	faults(t, `
zz => name 0 zz
n + nn => name 4 nn
[one, on] => name 6 on
`)
	e := parse("n")
	for _, l := range [][]api.Bind{nil, {}, {{Name: "N"}}, {{Name: "n "}}, {{Name: "nn"}}, {{Name: ""}}} {
		wrongly(t, e, l, api.Diag{Code: api.ErrName, Pos: api.Pos{Line: 1, Col: 1}, What: "n"})
	}
	l := []api.Bind{{Name: "n", V: value.Int(1)}, {Name: "m", V: value.Int(2)}, {Name: "n", V: value.Mark(value.Str("x"))}, {Name: "o"}}
	if v, d := Eval(e, l); d != (api.Diag{}) || !value.Same(v, l[2].V) {
		t.Error(v, d)
	}
}

// P14.1: elements of maps and lists.
func TestElements(t *testing.T) {
	worths(t, `
d.a => 1
d.k => m("s")
dd.x.y[0] => 7
{true = 1}.true => 1
d["a"] => 1
d["${substr(s, 0, 1)}"] => 1
l[0] => 4
l[1] => 5
l[n - 2] => 5
le[1] => m(5)
le[0] => 4
part[0] => 1
part[1] => u("int")
u.x => u("any")
ui.x => u("any")
um.x.y => u("any")
umi.x => u("any")
u[0] => u("any")
ui["x"] => u("any")
u[z] => u("any")
l[u] => u("any")
n[us] => u("any")
z[u] => u("any")
uli[0] => u("any")
u[u] => u("any")
`)
	faults(t, `
d.b => none 1 b
d.a.b => type 3
dd.x.x => none 4 x
n.a => type 1
l.a => type 1
z.a => type 1
s.a => type 1
part.a => type 4
zz.a => name 0 zz
d["b"] => none 1
d[""] => none 1
l[2] => none 1
l[-1] => none 1
e[0] => none 1
l[9223372036854775807] => none 1
d[0] => type 1
l["a"] => type 1
l[true] => type 1
l[null] => type 1
l[l] => type 1
l[part] => type 1
s[0] => type 1
n[0] => type 1
z["a"] => type 1
zz[yy] => name 0 zz
n[yy] => name 2 yy
u[yy] => name 2 yy
l[n / 0] => zero 4
`)
}

// P14.1: calls: their arguments ahead of all, then what layer 13 answers.
func TestCalls(t *testing.T) {
	worths(t, `
length(l) => 2
max(1, n, 2) => 3
length(u) => u("int")
concat(l, [u]) => u("list")
keys(um) => u("list(str)")
join("-", ["a", s]) => "a-ab"
length(le) => m(2)
length(mul) => m(u("int"))
lookup(d, "a", 0) => m(1)
text(mn) => m("3")
first(null, u) => u("any")
`)
	faults(t, `
sqrt(1) => name 0 sqrt
sqrt(zz) => name 5 zz
sqrt(u) => name 0 sqrt
max(1, n / 0, zz) => zero 9
abs() => arg 0 abs
abs(1, 2) => arg 0 abs
abs(u, u) => arg 0 abs
abs("a") => type 0 abs
1 + abs(s) => type 4 abs
abs(least - 1) => over 0 abs
max() => arg 0 max
number("x") => form 0 number
number("99999999999999999999") => over 0 number
one(l) => arg 0 one
element(e, 0) => none 0 element
zip(["a", "a"], l) => twice 0 zip
range(0, 129) => long 0 range
repeat("ab", 513) => long 0 repeat
length(n) => type 0 length
n(1) => name 0 n
`)
}

// P14.1: signs of truths and numbers.
func TestSigns(t *testing.T) {
	worths(t, `
!t => false
!f => true
!!t => true
!u => u("bool")
!ub => u("bool")
-n => -3
-0 => 0
-(-n) => 3
-u => u("int")
-ui => u("int")
1 + 2 * 3 => 7
(1 + 2) * 3 => 9
10 - 2 - 3 => 5
n + 4 => 7
n - 4 => -1
n * -4 => -12
7 / 2 => 3
-7 / 2 => -3
7 / -2 => -3
7 % 2 => 1
-7 % 2 => -1
7 % -2 => 1
(least - 1) % -1 => 0
u + 1 => u("int")
1 - ui => u("int")
u * u => u("int")
u / 0 => u("int")
0 % ui => u("int")
9223372036854775807 + ui => u("int")
`)
	faults(t, `
!n => type 0
!s => type 0
!z => type 0
!l => type 0
!ui => type 0
!ul => type 0
!us => type 0
!zz => name 1 zz
n && !n => type 2
t && !n => type 5
-s => type 0
-t => type 0
-z => type 0
-part => type 0
-ub => type 0
-us => type 0
-uli => type 0
-zz => name 1 zz
-(least - 1) => over 0
1 + "a" => type 2
"a" + 1 => type 4
"a" + "b" => type 4
null + 1 => type 5
true * 1 => type 5
l + l => type 2
us + 1 => type 3
1 / ub => type 2
u % s => type 2
s - u => type 2
uli * u => type 4
1 / 0 => zero 2
1 % 0 => zero 2
(least - 1) / -1 => over 12
9223372036854775807 + 1 => over 20
least - 2 => over 6
9223372036854775807 * 2 => over 20
"a" + zz => name 6 zz
1 / 0 + zz => zero 2
zz + yy => name 0 zz
"a" * (1 / 0) => zero 9
`)
}

// P14.1: what two numbers, or two texts, are to each other.
func TestOrder(t *testing.T) {
	worths(t, `
1 < 2 => true
2 < 2 => false
3 < 2 => false
1 <= 2 => true
2 <= 2 => true
3 <= 2 => false
1 > 2 => false
2 > 2 => false
3 > 2 => true
1 >= 2 => false
2 >= 2 => true
3 >= 2 => true
least < 0 => true
least - 1 < 9223372036854775807 => true
least - 1 > least => false
"a" < "b" => true
"a" < "a" => false
"b" < "a" => false
"" < "a" => true
"a" < "aa" => true
"B" < "a" => true
"z" < "é" => true
"10" < "9" => true
"a" <= "a" => true
"b" <= "a" => false
"a" > "" => true
"a" > "a" => false
"a" >= "a" => true
"a" >= "b" => false
u < 1 => u("bool")
1 < u => u("bool")
u <= "a" => u("bool")
"a" > u => u("bool")
ui >= 1 => u("bool")
us < "a" => u("bool")
u < u => u("bool")
ui < u => u("bool")
us < u => u("bool")
ui > ui => u("bool")
us > us => u("bool")
`)
	faults(t, `
1 < "a" => type 2
"a" < 1 => type 4
t < f => type 2
z < z => type 2
1 < null => type 2
l < l => type 2
d >= d => type 2
u < t => type 2
z <= u => type 2
ui < "a" => type 3
"a" > ui => type 4
us >= 1 => type 3
us < ui => type 3
ub < u => type 3
u < ul => type 2
um < um => type 3
1 < zz => name 4 zz
t < zz => name 4 zz
zz < yy => name 0 zz
`)
}

// P14.1: whether two are alike.
func TestLike(t *testing.T) {
	worths(t, `
1 == 1 => true
1 == 2 => false
1 != 1 => false
1 != 2 => true
1 == "1" => false
1 == true => false
0 == false => false
null == null => true
null == false => false
null != 0 => true
"a" == "a" => true
"a" != "b" => true
[] == [] => true
[] == {} => false
[] == null => false
l == [4, 5] => true
l == [5, 4] => false
l == [4] => false
l != [4, 5, null] => true
{a = 1, b = 2} == {b = 2, a = 1} => true
{a = 1} == {a = 2} => false
{a = 1} == {b = 1} => false
{a = [{b = 1}]} == {a = [{b = 1}]} => true
u == 1 => u("bool")
1 != u => u("bool")
u == u => u("bool")
ui == "a" => u("bool")
part == 1 => u("bool")
part == part => u("bool")
part != [2, 1] => u("bool")
{a = [u]} == {} => u("bool")
{} != {a = [u]} => u("bool")
`)
	faults(t, `
zz == 1 => name 0 zz
1 != zz => name 5 zz
u == zz => name 5 zz
`)
}

// P14.1: and, or: what one part decides alone; what isn't come to may be wrong.
func TestDecided(t *testing.T) {
	worths(t, `
t && t => true
t && f => false
f && t => false
f && f => false
f && zz => false
f && 1 => false
f && 1 / 0 => false
t && u => u("bool")
t && ub => u("bool")
f && u => false
u && t => u("bool")
u && f => false
ub && f => false
u && u => u("bool")
ub && ub => u("bool")
t || t => true
t || f => true
f || t => true
f || f => false
t || zz => true
t || 1 => true
f || u => u("bool")
f || ub => u("bool")
t || u => true
u || t => true
ub || t => true
u || f => u("bool")
u || u => u("bool")
f && t || t => true
f && (t || t) => false
t || f && zz => true
`)
	faults(t, `
1 && t => type 2
1 && zz => type 2
z && f => type 2
s || t => type 2
l || zz => type 2
ui && f => type 3
ul || t => type 3
t && 1 => type 2
t && z => type 2
f || s => type 2
f || ui => type 2
u && 1 => type 2
u && us => type 2
ub || l => type 3
t && zz => name 5 zz
u && zz => name 5 zz
u || zz => name 5 zz
f || zz => name 5 zz
zz && 1 => name 0 zz
`)
}

// P14.1: conditions: one part is come to, or both, if it isn't known which.
func TestConditions(t *testing.T) {
	worths(t, `
t ? 1 : 2 => 1
f ? 1 : 2 => 2
t ? l : zz => [4, 5]
f ? zz : s => "ab"
t ? u : 1 / 0 => u("any")
t ? part : 1 => [1, u("int")]
f ? 1 : uli => u("list(int)")
n == 3 ? f ? 1 : 2 : 3 => 2
u ? 1 : 1 => 1
ub ? l : [4, 5] => [4, 5]
u ? null : null => null
u ? le : l => m([4, m(5)])
u ? l : le => m([4, 5])
u ? 1 : 2 => u("int")
u ? t : f => u("bool")
u ? "a" : "b" => u("str")
u ? 1 : "b" => u("any")
u ? 1 : null => u("any")
u ? l : [1] => u("list(int)")
u ? l : ["a"] => u("list")
u ? l : [] => u("list")
u ? [l] : [[]] => u("list")
u ? {a = 1} : {b = 2} => u("map(int)")
u ? {a = 1} : {a = "b"} => u("map")
u ? {a = 1} : [1] => u("any")
u ? ui : 1 => u("int")
u ? ui : ui => u("int")
u ? u : 1 => u("any")
u ? uli : l => u("list(int)")
u ? ul : l => u("list")
u ? part : part => u("list(int)")
u ? part : [u] => u("list")
u ? [1, "a"] : [2, "b"] => u("list")
`)
	faults(t, `
1 ? 2 : 3 => type 2
z ? zz : 3 => type 2
l ? 2 : zz => type 2
s ? 2 : 3 => type 2
ui ? 2 : 3 => type 3
uli ? 2 : zz => type 4
zz ? yy : xx => name 0 zz
t ? zz : yy => name 4 zz
f ? zz : yy => name 9 yy
u ? zz : yy => name 4 zz
u ? 1 : yy => name 8 yy
ub ? 1 / 0 : yy => zero 7
`)
}

// P14.1: lists and maps of parts.
func TestWholes(t *testing.T) {
	worths(t, `
[] => []
[1, "a", null, l] => [1, "a", null, [4, 5]]
[u, ui, part] => [u("any"), u("int"), [1, u("int")]]
[mn, le] => [m(3), [4, m(5)]]
{} => {}
{b = 1, a = s, c = [n]} => {a = "ab", b = 1, c = [3]}
{"b${n}" = 1, b2 = 2, "" = 3} => {"" = 3, b2 = 2, b3 = 1}
{a = u, b = part} => {a = u("any"), b = [1, u("int")]}
{"${us}" = 1} => u("map")
{a = 1, "${us}" = 1, b = 2} => u("map")
{"${u}" = 1, "${us}" = 2} => u("map")
{"a${ui}" = 1, a = 2} => u("map")
{if = 1, for = 2} => {for = 2, if = 1}
`)
	faults(t, `
[1, zz, yy] => name 4 zz
[1 / 0, zz] => zero 3
{a = zz, b = yy} => name 5 zz
{"${zz}" = yy} => name 4 zz
{a = 1, a = 2} => twice 8 a
{a = 1, a = zz} => twice 8 a
{a = 1, b = zz, a = 2} => name 12 zz
{"a${n}" = 1, a3 = 2} => twice 14 a3
{"${us}" = 1, a = 2, a = 3} => twice 21 a
{"${us}" = 1, "" = 2, "" = 3} => twice 22
{"${us}" = zz} => name 11 zz
{"${us}" = 1, "${l}" = 2} => type 17
{"${l}" = zz} => type 4
`)
}

// P14.1: keys that are no strings.
func TestKeysByHand(t *testing.T) {
	at := func(e api.Expr, n int) api.Expr {
		e.Pos = api.Pos{At: n, Line: 2, Col: n}
		return e
	}
	dict := func(keys ...string) api.Expr {
		e := api.Expr{Op: api.ExMap}
		for i, k := range keys {
			e.L = append(e.L, at(parse(k), 100+i), parse("l"))
		}
		return e
	}
	for keys, want := range map[string]string{
		"s":        "{ab = [4, 5]}",
		"ms":       "m({ab = [4, 5]})",
		"us":       `u("map")`,
		"u s":      `u("map")`,
		"mu s":     `m(u("map"))`,
		"n":        "type",
		"us n":     "type",
		"z":        "type",
		"ui":       "type",
		"mui":      "type",
		"ul":       "type",
		"l":        "type",
		"t":        "type",
		"s s":      "twice",
		"s ms":     "twice",
		"us s u s": "twice",
	} {
		e := dict(strings.Fields(keys)...)
		last := api.Pos{At: 99 + len(e.L)/2, Line: 2, Col: 99 + len(e.L)/2}
		switch want {
		case "type":
			wrongly(t, e, names(), api.Diag{Code: api.ErrType, Pos: last})
		case "twice":
			wrongly(t, e, names(), api.Diag{Code: api.ErrTwice, Pos: last, What: "ab"})
		default:
			if v, d := Eval(e, names()); d != (api.Diag{}) || !value.Same(v, read(want)) {
				t.Errorf("%s: %v, %v; want %s", keys, v, d, want)
			}
		}
	}
}

// P14.1: each of a list, or of a map.
func TestLoops(t *testing.T) {
	worths(t, `
[for v in [1, 2] : v * 2] => [2, 4]
[for v in [] : zz] => []
[for v in {} : zz if yy] => []
[for i, v in l : i] => [0, 1]
[for i, v in l : i * v if v > 4] => [5]
[for v in l : v if false] => []
[for v in l : zz if false] => []
[for v in {b = 1, a = 2} : v] => [2, 1]
[for k, v in {b = 1, a = 2} : "${k}${v}"] => ["a2", "b1"]
[for n in [1] : n] => [1]
[for n in [n] : n + 1] => [4]
[for v in [n] : [for n in [v + 1] : n + v]] => [[7]]
[for v in l : [for v in [v] : v + 1]] => [[5], [6]]
[[for n in l : n], n] => [[4, 5], 3]
[for v, v in [7, 8] : v] => [0, 1]
[for v, n in [7, 8] : v + n] => [7, 9]
[for v in [u, 1] : v] => [u("any"), 1]
[for v in part : v + 1] => [2, u("int")]
[for v in u : zz] => u("list")
[for v in ul : v] => u("list")
[for v in ui : zz if yy] => u("list")
[for v in um : v] => u("list")
[for v in l : v if u] => u("list")
[for v in l : v if ub] => u("list")
[for v in [false, u, true] : 1 if v] => u("list")
[for v in part : v if v == 1] => u("list")
{for v in [] : zz => yy} => {}
{for v in l : "k${v}" => v} => {k4 = 4, k5 = 5}
{for i, v in ["b", "a"] : v => i} => {a = 1, b = 0}
{for k, v in {x = 1, y = 2} : "${k}z" => v + 1 if v > 1} => {yz = 3}
{for v in l : zz => yy if false} => {}
{for v in l : "a" => v if v == 5} => {a = 5}
{for v in u : zz => yy if xx} => u("map")
{for v in uli : "a" => v} => u("map")
{for v in ui : "a" => v} => u("map")
{for v in l : us => v} => u("map")
{for v in l : u => v} => u("map")
{for v in ["a", us, "b"] : v => 1} => u("map")
{for v in l : "a${v}" => 1 if u} => u("map")
{for v in ["a", "b"] : v => u} => {a = u("any"), b = u("any")}
{for i, v in [u] : "a" => v} => {a = u("any")}
`)
	faults(t, `
[for v in n : v] => type 10
[for v in z : zz] => type 10
[for v in s : v] => type 10
{for v in 1 + 1 : v => v} => type 12
[for v in zz : v] => name 10 zz
[for v in v : v] => name 10 v
[for i, v in [i] : v] => name 14 i
[for v in l : v] + v => name 19 v
[[for v in l : v], v] => name 19 v
[for v in l : zz if yy] => name 20 yy
[for v in l : zz if v == 5] => name 14 zz
[for v in l : v if v] => type 19
[for v in l : v if null] => type 19
[for v in l : v if ui] => type 19
[for v in [true, 1, zz] : v if v] => name 20 zz
[for v in [true, 1] : v if v] => type 27
[for v in [true, u, false, s] : v if v] => type 37
[for v in l : zz if u] => name 14 zz
[for v in [1, 0] : 1 / v if u] => zero 21
{for v in l : v => zz} => type 14
{for v in l : null => zz} => type 14
{for v in l : ui => zz} => type 14
{for v in l : zz => yy} => name 14 zz
{for v in l : "a" => yy} => name 21 yy
{for v in l : us => yy} => name 20 yy
{for v in l : "a" => v} => twice 14 a
{for v in l : "a" => v if u} => twice 14 a
{for v in ["a", us, "a"] : v => 1} => twice 27 a
{for v in ["b", "a", "a"] : v => zz if v != "b"} => name 33 zz
{for v in ["b", "b"] : v => 1 / 0} => zero 30
{for v in ["a", 1] : v => 1} => type 21
{for v in l : zz => yy if xx} => name 26 xx
{for v in l : "a" => 1 if 1} => type 26
`)
}

// P14.1: strings.
func TestTexts(t *testing.T) {
	worths(t, `
"a${n}b" => "a3b"
"${n}" => "3"
"${s}${s}" => "abab"
"${t}-${f}" => "true-false"
"${least}" => "-9223372036854775807"
"\"${s}\n\\" => "\"ab\n\\"
"é${s}" => "éab"
"a${u}" => u("str")
"${ui}b" => u("str")
"${us}${s}" => u("str")
"${ub}" => u("str")
"${[for v in l : v][0]}" => "4"
`)
	faults(t, `
"a${l}" => type 4
"a${z}" => type 4
"${d}" => type 3
"${e}b" => type 3
"${ul}" => type 3
"${uli}" => type 3
"${um}" => type 3
"${umi}" => type 3
"${part}" => type 3
"${u}${ul}" => type 7
"${zz}" => name 3 zz
"a${n}${zz}" => name 8 zz
"${l}${zz}" => type 3
"${u}${zz}" => name 7 zz
"${zz}${l}" => name 3 zz
"${n / 0}" => zero 5
"${n + 1}${l[n]}" => none 12
`)
	for n, want := range map[int]api.Errno{0: api.OK, 511: api.OK, 512: api.OK, 513: api.ErrLong, 1024: api.ErrLong} {
		l := []api.Bind{{Name: "s", V: value.Str(strings.Repeat("x", n))}, {Name: "u", V: value.Unknown(api.Type{})}}
		e := parse(`1 == "${s}${s}"`)
		v, d := Eval(e, l)
		wrong := api.Diag{}
		if want != api.OK {
			wrong = api.Diag{Code: want, Pos: api.Pos{At: 5, Line: 1, Col: 6}}
		}
		if d != wrong || want == api.OK && !value.Same(v, value.Bool(false)) {
			t.Error(n, v, d)
		}
		// What is unknown is told ahead of what is too long.
		if v, d := Eval(parse(`"${s}${u}${s}"`), l); d != (api.Diag{}) || !value.Same(v, read(`u("str")`)) {
			t.Error(n, v, d)
		}
	}
}

// P14.1: values that may not be: each at the place of what would be worth it.
func TestTooMuch(t *testing.T) {
	deep := func(n int) api.Value {
		v := value.Int(1)
		for range n - 1 {
			v = value.List(v)
		}
		return v
	}
	ints := func(n int) api.Value {
		var l []api.Value
		for i := range n {
			l = append(l, value.Int(int64(i)))
		}
		return value.List(l...)
	}
	l := []api.Bind{{Name: "seven", V: deep(7)}, {Name: "eight", V: deep(8)}, {Name: "a", V: ints(127)}, {Name: "b", V: ints(126)}, {Name: "big", V: ints(128)}, {Name: "x", V: value.Str(strings.Repeat("x", 1024))},
		{Name: "u", V: value.Unknown(api.Type{})},
		{Name: "deep", V: deep(9)}, {Name: "long", V: ints(129)}, {Name: "odd", V: api.Value{Kind: api.VInt, S: "a"}}, {Name: "str", V: value.Str(strings.Repeat("x", 1025))}}
	for in, at := range map[string]int{
		`[seven]`:                       -1,
		`[eight]`:                       0,
		`{a = seven}`:                   -1,
		`{a = eight}`:                   0,
		`[1, [seven]]`:                  0,
		`[1, {a = [seven]}]`:            4,
		`[for v in [1] : eight]`:        0,
		`[for v in [1] : seven]`:        -1,
		`{for v in [1] : "a" => eight}`: 0,
		`[a, a, a, b]`:                  -1,
		`[a, a, a, a]`:                  0,
		`[1, [a, a, a, a]]`:             4,
		`[1, [a, a, a, b]]`:             0,
		`{a = a, b = a, c = a, d = b}`:  -1,
		`{a = a, b = a, c = a, d = a}`:  0,
		`[for v in [1, 1, 1, 1] : a]`:   0,
		`[for v in big : v]`:            -1,
		`{for v in big : "${v}" => v}`:  -1,
		`[for v in big : x]`:            -1,
		`{for v in big : "${v}" => x}`:  -1,
		`deep`:                          0,
		`[1, deep]`:                     4,
		`long`:                          0,
		`odd == 1`:                      0,
		`false && odd`:                  -1,
		`true || deep`:                  -1,
		`u ? 1 : long`:                  8,
		`str`:                           0,
		`[for v in big : odd if v < 0]`: -1,
		`[for v in big : odd]`:          16,
	} {
		v, d := Eval(parse(in), l)
		want := api.Diag{}
		if at >= 0 {
			want = api.Diag{Code: api.ErrLong, Pos: api.Pos{At: at, Line: 1, Col: at + 1}}
		}
		if d != want || d.Code != api.OK && !value.Same(v, null) || value.Check(v) != api.OK {
			t.Errorf("%s: %s, %v; want %v", in, brief(v), d, want)
		}
	}
}

// P14.1: places are those of the text, on whatever line.
func TestPlaces(t *testing.T) {
	for in, want := range map[string]api.Diag{
		"1 +\n  zz":               {Code: api.ErrName, Pos: api.Pos{At: 6, Line: 2, Col: 3}, What: "zz"},
		"[\n1,\n\t2 / 0]":         {Code: api.ErrZero, Pos: api.Pos{At: 8, Line: 3, Col: 4}},
		"{\n a = 1,\n \"a\" = 2}": {Code: api.ErrTwice, Pos: api.Pos{At: 11, Line: 3, Col: 2}, What: "a"},
		"t\n?\nn.x : 1":           {Code: api.ErrType, Pos: api.Pos{At: 5, Line: 3, Col: 2}},
		"# a\nabs(\n)":            {Code: api.ErrArg, Pos: api.Pos{At: 4, Line: 2, Col: 1}, What: "abs"},
	} {
		wrongly(t, parse(in), names(), want)
	}
	// A tree's places are taken as they are.
	e := parse("zz")
	e.Pos = api.Pos{At: -5, Line: 0, Col: 1 << 40}
	wrongly(t, e, nil, api.Diag{Code: api.ErrName, Pos: e.Pos, What: "zz"})
	e.Pos = api.Pos{}
	wrongly(t, e, nil, api.Diag{Code: api.ErrName, What: "zz"})
	if d := expr.Depth(e); d != 1 {
		t.Error(d)
	}
}

// P14.2: truths.
func TestTruth(t *testing.T) {
	for in, want := range map[string][2]bool{
		"t": {true, true}, "f": {true, false}, "1 < 2": {true, true}, "n > 3": {true, false}, "f && zz": {true, false}, "mt": {true, true}, "mf": {true, false}, "!mf": {true, true},
		"u": {}, "ub": {}, "mu": {}, "mub": {}, "u && t": {}, "n == u": {}, "u.x": {}, "t ? u : 1": {}, "u && f": {true, false}, "first(t)": {true, true},
	} {
		if known, holds, d := Truth(parse(in), names()); [2]bool{known, holds} != want || d != (api.Diag{}) {
			t.Errorf("Truth(%s) = %t, %t, %v", in, known, holds, d)
		}
	}
	for in, at := range map[string]int{
		"n": 0, "0": 0, "one": 0, "z": 0, "null": 0, "s": 0, `"true"`: 0, "l": 0, "e": 0, "d": 0, "ui": 0, "us": 0, "ul": 0, "umi": 0, "mn": 0, "mz": 0, "n + 1": 2, "[true]": 0, "t ? 1 : f": 2, "d.a": 1, "l[0]": 1, "u + 1": 2, "length(l)": 0, "u ? 1 : 2": 2, `"${t}"`: 0, "[for v in u : v]": 0,
	} {
		want := api.Diag{Code: api.ErrType, Pos: api.Pos{At: at, Line: 1, Col: at + 1}}
		if known, holds, d := Truth(parse(in), names()); known || holds || d != want {
			t.Errorf("Truth(%s) = %t, %t, %v; want %v", in, known, holds, d, want)
		}
	}
	for in, want := range map[string]api.Diag{
		"zz":        {Code: api.ErrName, Pos: api.Pos{Line: 1, Col: 1}, What: "zz"},
		"t && 1":    {Code: api.ErrType, Pos: api.Pos{At: 2, Line: 1, Col: 3}},
		"t && zz":   {Code: api.ErrName, Pos: api.Pos{At: 5, Line: 1, Col: 6}, What: "zz"},
		"1 / 0 > 1": {Code: api.ErrZero, Pos: api.Pos{At: 2, Line: 1, Col: 3}},
	} {
		if known, holds, d := Truth(parse(in), names()); known || holds || d != want {
			t.Errorf("Truth(%s) = %t, %t, %v; want %v", in, known, holds, d, want)
		}
	}
}
