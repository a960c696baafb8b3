package eval

import "testing"

// P14.1, P14.3: what is answered is marked, if what it hangs on is: kind by kind, and in each part.
func TestMarks(t *testing.T) {
	worths(t, `
mn => m(3)
md => m({a = 1})
md.a => m(1)
d.k => m("s")
d.a => 1
mu.x => m(u("any"))
mum.x => m(u("any"))
ml[0] => m(4)
le[0] => 4
le[1] => m(5)
l[mn - 3] => m(4)
le[mn - 2] => m(5)
md["a"] => m(1)
mul[0] => m(u("any"))
l[mu] => m(u("any"))
le[u] => u("any")
u[ml] => m(u("any"))
u[le] => m(u("any"))
[mu][0] => m(u("any"))
[u, mn][0] => u("any")
u[mn] => m(u("any"))
mu[0] => m(u("any"))
`)
}

// P14.3: signs.
func TestMarksOfSigns(t *testing.T) {
	worths(t, `
!mt => m(false)
!mub => m(u("bool"))
!mu => m(u("bool"))
-mn => m(-3)
-mui => m(u("int"))
mn + 1 => m(4)
1 + mn => m(4)
mn * mn => m(9)
mn - u => m(u("int"))
u / mn => m(u("int"))
mui % 2 => m(u("int"))
mn < 4 => m(true)
4 < mn => m(false)
"a" <= ms => m(true)
ms >= "b" => m(false)
mu > 1 => m(u("bool"))
1 > mu => m(u("bool"))
us < ms => m(u("bool"))
mn == 3 => m(true)
3 != mn => m(false)
ml == l => m(true)
le == l => m(true)
l == le => m(true)
l != le => m(false)
le == 1 => m(false)
[[{a = mn}]] == [] => m(false)
le == u => m(u("bool"))
u == le => m(u("bool"))
part == 1 => u("bool")
mz == null => m(true)
[mu] != 1 => m(u("bool"))
`)
}

// P14.3: what decides, and what isn't come to.
func TestMarksOfTruths(t *testing.T) {
	worths(t, `
mf && zz => m(false)
mt || zz => m(true)
f && mt => false
t || mf => true
mt && f => m(false)
mt && t => m(true)
t && mt => m(true)
t && mf => m(false)
mt && u => m(u("bool"))
t && mu => m(u("bool"))
u && mf => m(false)
u && mt => m(u("bool"))
mub && f => m(false)
mu && t => m(u("bool"))
ub && f => false
mf || t => m(true)
mf || f => m(false)
f || mf => m(false)
f || mub => m(u("bool"))
mf || u => m(u("bool"))
u || mt => m(true)
u || mf => m(u("bool"))
mub || t => m(true)
ub || t => true
mt ? 1 : zz => m(1)
mf ? zz : 1 => m(1)
mt ? le : 1 => m([4, m(5)])
mt ? u : 1 => m(u("any"))
t ? mn : 1 => m(3)
t ? 1 : mn => 1
f ? mn : 1 => 1
t ? le : ml => [4, m(5)]
u ? 1 : 1 => 1
u ? mn : 3 => m(3)
u ? 3 : mn => m(3)
u ? l : le => m([4, 5])
u ? le : l => m([4, m(5)])
u ? le : le => m([4, m(5)])
u ? mn : 4 => m(u("int"))
u ? 4 : mn => m(u("int"))
u ? [1] : le => m(u("list(int)"))
u ? le : 1 => m(u("any"))
u ? l : [1] => u("list(int)")
u ? mui : 1 => m(u("int"))
mu ? 1 : 1 => m(1)
mub ? 1 : 2 => m(u("int"))
`)
}

// P14.3: lists, maps and strings.
func TestMarksOfWholes(t *testing.T) {
	worths(t, `
[mn, 1] => [m(3), 1]
[le, ml] => [[4, m(5)], m([4, 5])]
{a = mn, b = le} => {a = m(3), b = [4, m(5)]}
{"${ms}" = 1} => m({ab = 1})
{"a${mn}" = le, b = 2} => m({a3 = [4, m(5)], b = 2})
{a = 1, "${mus}" = 2} => m(u("map"))
{"${us}" = 1} => u("map")
{"${us}" = mn} => m(u("map"))
{"${us}" = 1, a = mn} => m(u("map"))
{a = le, "${us}" = 1} => m(u("map"))
{"${ms}" = 1, "${us}" = 1} => m(u("map"))
"a${mn}" => m("a3")
"${ms}${n}" => m("ab3")
"${n}${mt}" => m("3true")
"${mu}" => m(u("str"))
"${u}${mn}" => m(u("str"))
"${u}${n}" => u("str")
"${le[0]}" => "4"
length(ms) => m(2)
length(le) => m(2)
max(1, mui) => m(u("int"))
first(1, mn) => m(1)
`)
}

// P14.3: each of a list, or of a map.
func TestMarksOfLoops(t *testing.T) {
	worths(t, `
[for v in ml : v] => m([m(4), m(5)])
[for v in ml : 1] => m([1, 1])
[for i, v in ml : i] => m([m(0), m(1)])
[for i, v in ml : [i]] => m([[m(0)], [m(1)]])
[for k, v in md : k] => m([m("a")])
[for v in me : v] => m([])
[for v in le : v] => [4, m(5)]
[for v in le : 1] => [1, 1]
[for i, v in le : i] => [0, 1]
[for k, v in d : k] => ["a", "k"]
[for k, v in d : v] => [1, m("s")]
[for v in mul : v] => m(u("list"))
[for v in mu : zz] => m(u("list"))
[for v in ul : mn] => u("list")
[for v in l : mn] => [m(3), m(3)]
[for v in le : v if v == 4] => m([4])
[for v in le : v if v == 5] => m([m(5)])
[for v in l : v if mt] => m([4, 5])
[for v in l : v if mf] => m([])
[for v in l : v if v == 4 || mf] => m([4])
[for v in [f] : v if v] => []
[for v in l : v if mub] => m(u("list"))
[for v in l : v if u] => u("list")
[for v in l : mn if u] => m(u("list"))
[for v in le : v if u] => m(u("list"))
[for v in [le] : v if u] => m(u("list"))
[for v in le : v if v == 4 && u] => m(u("list"))
[for v in [t, u] : v ? mn : mn if v] => m(u("list"))
[for i, v in le : i if i == 0 || u] => u("list")
[for i, v in le : v if i == 0 && u] => u("list")
[for i, v in le : v if i == 1 && u] => m(u("list"))
[for v in [u, mf] : 1 if v] => m(u("list"))
{for v in ml : "${v}" => v} => m({"4" = m(4), "5" = m(5)})
{for v in l : "${v}" => mn} => {"4" = m(3), "5" = m(3)}
{for v in le : "${v}" => 1} => m({"4" = 1, "5" = 1})
{for i, v in le : "${i}" => v} => {"0" = 4, "1" = m(5)}
{for k, v in md : k => v} => m({a = m(1)})
{for k, v in d : k => v} => {a = 1, k = m("s")}
{for v in me : zz => v} => m({})
{for v in mum : v => v} => m(u("map"))
{for v in [1] : ms => v} => m({ab = 1})
{for v in [1] : us => v} => u("map")
{for v in [1] : mus => v} => m(u("map"))
{for v in [1] : us => mn} => m(u("map"))
{for v in l : us => le} => m(u("map"))
{for i, v in le : "${i}" => v if u} => m(u("map"))
{for i, v in le : "${i}" => i if u} => u("map")
{for i, v in le : "${i}" => v if i == 0 && u} => u("map")
{for i, v in le : "${i}" => 1 if v == 4} => m({"0" = 1})
{for v in l : "${v}" => v if mf} => m({})
{for v in l : "${v}" => v if mu} => m(u("map"))
{for v in [mn, us] : "${v}" => 1} => m(u("map"))
`)
}
