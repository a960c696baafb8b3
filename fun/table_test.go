package fun

import (
	"strings"
	"testing"

	"surety/api"
	"surety/value"
)

// works are calls, and what they answer.
const works = `abs(0) = 0
abs(7) = 7
abs(-7) = 7
abs(9223372036854775807) = 9223372036854775807
abs(-9223372036854775807) = 9223372036854775807
all([]) = true
all([true]) = true
all([true, true]) = true
all([false]) = false
all([true, true, false]) = false
all([false, true]) = false
any([]) = false
any([false, false]) = false
any([true]) = true
any([false, true]) = true
any([true, false]) = true
compact([]) = []
compact([null, "", null]) = []
compact(["a", null, "", 0, false, [], {}, " ", [null, ""], {a = null}, "b"]) = ["a", 0, false, [], {}, " ", [null, ""], {a = null}, "b"]
concat() = []
concat([]) = []
concat([1]) = [1]
concat([2, null], [], ["a", [3]], [2]) = [2, null, "a", [3], 2]
distinct([]) = []
distinct([1, 2, 1, 3, 2]) = [1, 2, 3]
distinct([3, 1, 3, 2, 1]) = [3, 1, 2]
distinct([null, 0, false, "", "0", [], {}, null, 0, false, "", "0", [], {}]) = [null, 0, false, "", "0", [], {}]
distinct([[1, 2], [2, 1], [1, 2], [1], [[1, 2]], {a = 1}, {b = 1}, {a = 2}, {a = 1}]) = [[1, 2], [2, 1], [1], [[1, 2]], {a = 1}, {b = 1}, {a = 2}]
distinct(["a", ["a"], "b", ["a"], "a"]) = ["a", ["a"], "b"]
element([5], 0) = 5
element([5, 6, 7], 0) = 5
element([5, 6, 7], 2) = 7
element([5, 6, 7], 3) = 5
element([5, 6, 7], 10) = 6
element([5, null], 9223372036854775807) = null
element([[1], {a = 1}], 1) = {a = 1}
ends("", "") = true
ends("a", "") = true
ends("", "a") = false
ends("abc", "c") = true
ends("abc", "bc") = true
ends("abc", "abc") = true
ends("abc", "ab") = false
ends("abc", "xabc") = false
ends("abc", "C") = false
first(1) = 1
first(null, null, 2, 3) = 2
first(false, true) = false
first("", "a") = ""
first([], 1) = []
first([null], 1) = [null]
first({a = [1]}, null) = {a = [1]}
flatten([]) = []
flatten([1, 2]) = [1, 2]
flatten([[]]) = []
flatten([1, [2, 3], [], [[4, [5]]], null, {a = [6]}, "b", [null]]) = [1, 2, 3, [4, [5]], null, {a = [6]}, "b", null]
has("abc", "") = true
has("", "") = true
has("", "a") = false
has("abc", "a") = true
has("abc", "bc") = true
has("abc", "abc") = true
has("abc", "ac") = false
has("abc", "abcd") = false
has("abc", "B") = false
has([], null) = false
has([1, 2], 2) = true
has([1, 2], 3) = false
has([1, 2], "1") = false
has([1, null], null) = true
has([false], 0) = false
has([[1, 2]], 1) = false
has([[1, 2]], [1, 2]) = true
has([{a = 1}], {a = 1}) = true
has(["abc"], "b") = false
has({}, "a") = false
has({a = 1, c = 2}, "a") = true
has({a = 1, c = 2}, "b") = false
has({a = 1, c = 2}, "c") = true
has({a = 1, c = 2}, "d") = false
has({a = "b"}, "b") = false
has({a = null}, "a") = true
has({abc = 1}, "b") = false
hash("") = "e3b0c44298fc1c149afbf4c8996fb92427ae41e4649b934ca495991b7852b855"
hash("abc") = "ba7816bf8f01cfea414140de5dae2223b00361a396177a9cb410ff61f20015ad"
index([4, 5, 4, 5], 5) = 1
index([4, 5, 4, 5], 4) = 0
index([null, 1], null) = 0
index(["1", [1], 1], 1) = 2
index([[1], [2, 3]], [2, 3]) = 1
join("-", []) = ""
join("-", ["a"]) = "a"
join("-", ["a", "b", "", "c"]) = "a-b--c"
join("", ["a", "b"]) = "ab"
join(", ", ["", ""]) = ", "
keys({}) = []
keys({b = 1, a = [2], c = null}) = ["a", "b", "c"]
keys({"" = 1, "B" = 2, "a" = 3, "é" = 4}) = ["", "B", "a", "é"]
length("") = 0
length("abc") = 3
length("é") = 2
length([]) = 0
length([null, [1, 2], 3]) = 3
length({}) = 0
length({a = 1, b = {c = 2, d = 3}}) = 2
lookup({a = 1}, "a", 2) = 1
lookup({a = 1}, "b", 2) = 2
lookup({}, "", [3]) = [3]
lookup({"" = 1}, "", 2) = 1
lookup({a = null}, "a", 2) = null
lookup({a = {b = 1}}, "b", null) = null
lookup({a = {b = 1}}, "a", null) = {b = 1}
lower("") = ""
lower("@AbYZ[\\]^_azÀÉ019 ") = "@abyz[\\]^_azÀÉ019 "
max(3) = 3
max(1, 3, 2) = 3
max(-1, -3) = -1
max(3, 3) = 3
max(-9223372036854775807, 9223372036854775807, 0) = 9223372036854775807
merge() = {}
merge({}) = {}
merge({a = 1}) = {a = 1}
merge({b = 1, a = 2}, {}, {c = 3, a = null}, {a = 4, d = {e = 5}}) = {a = 4, b = 1, c = 3, d = {e = 5}}
merge({a = {b = 1}}, {a = {c = 2}}) = {a = {c = 2}}
merge({a = 1}, {a = null}) = {a = null}
min(3) = 3
min(3, 1, 2) = 1
min(-1, -3) = -3
min(-9223372036854775807, 9223372036854775807, 0) = -9223372036854775807
number(0) = 0
number(-9223372036854775807) = -9223372036854775807
number(true) = 1
number(false) = 0
number("0") = 0
number("-12") = -12
number("9223372036854775807") = 9223372036854775807
number("-9223372036854775808") = m9223372036854775808
omit({a = 1, b = 2, c = 3}, ["c", "a", "x"]) = {b = 2}
omit({a = 1, b = 2}, []) = {a = 1, b = 2}
omit({a = 1, b = 2}, ["b", "a", "b"]) = {}
omit({a = 1}, ["A", ""]) = {a = 1}
omit({}, ["a"]) = {}
one([]) = null
one([null]) = null
one([1]) = 1
one([[1, 2]]) = [1, 2]
pick({a = 1, b = 2, c = null}, ["c", "a", "x"]) = {a = 1, c = null}
pick({a = 1, b = 2}, []) = {}
pick({a = 1, b = 2}, ["b", "a", "b"]) = {a = 1, b = 2}
pick({a = 1}, ["A", ""]) = {}
pick({}, ["a"]) = {}
range(2, 5) = [2, 3, 4]
range(0, 1) = [0]
range(-2, 1) = [-2, -1, 0]
range(0, 0) = []
range(5, 2) = []
range(9223372036854775807, -9223372036854775807) = []
range(9223372036854775805, 9223372036854775807) = [9223372036854775805, 9223372036854775806]
repeat("ab", 0) = ""
repeat("ab", 1) = "ab"
repeat("ab", 3) = "ababab"
repeat("", 1024) = ""
replace("aaa", "aa", "b") = "ba"
replace("abcabc", "b", "") = "acac"
replace("abcabc", "abc", "abcabc") = "abcabcabcabc"
replace("abab", "aba", "x") = "xb"
replace("abc", "x", "y") = "abc"
replace("", "a", "b") = ""
replace("aXa", "x", "y") = "aXa"
replace("aa", "a", "aa") = "aaaa"
reverse([]) = []
reverse([1]) = [1]
reverse([1, "b", [3, 4]]) = [[3, 4], "b", 1]
sign(0) = 0
sign(5) = 1
sign(-5) = -1
sign(9223372036854775807) = 1
sign(-9223372036854775807) = -1
slice([1, 2, 3], 0, 3) = [1, 2, 3]
slice([1, 2, 3], 1, 2) = [2]
slice([1, 2, 3], 1, 3) = [2, 3]
slice([1, 2, 3], 0, 0) = []
slice([1, 2, 3], 3, 3) = []
slice([], 0, 0) = []
sort([]) = []
sort(["b", "a", "B", "", "ab", "a", "é"]) = ["", "B", "a", "a", "ab", "b", "é"]
split(",", "a,,b") = ["a", "", "b"]
split(",", "") = [""]
split(",", ",") = ["", ""]
split(",", "abc") = ["abc"]
split("ab", "xababyab") = ["x", "", "y", ""]
split("aa", "aaa") = ["", "a"]
split("abc", "abc") = ["", ""]
split("abcd", "abc") = ["abc"]
starts("", "") = true
starts("a", "") = true
starts("", "a") = false
starts("abc", "a") = true
starts("abc", "ab") = true
starts("abc", "abc") = true
starts("abc", "bc") = false
starts("abc", "abcx") = false
starts("abc", "A") = false
substr("abcd", 1, 2) = "bc"
substr("abcd", 0, 4) = "abcd"
substr("abcd", 0, 9) = "abcd"
substr("abcd", 3, 9223372036854775807) = "d"
substr("abcd", 2, 0) = ""
substr("abcd", 4, 1) = ""
substr("abcd", 9223372036854775807, 9223372036854775807) = ""
substr("", 0, 0) = ""
sum([]) = 0
sum([1, 2, -5]) = -2
sum([9223372036854775807, -9223372036854775807, 1]) = 1
sum([9223372036854775807, -1, 1]) = 9223372036854775807
text("") = ""
text("a") = "a"
text(0) = "0"
text(-12) = "-12"
text(true) = "true"
text(false) = "false"
trim("") = ""
trim(" \t\n") = ""
trim("a") = "a"
trim(" \n\ta b\tc\n \t") = "a b\tc"
truth(true) = true
truth(false) = false
truth(0) = false
truth(1) = true
truth("true") = true
truth("false") = false
upper("") = ""
upper("` + "`" + `aByz{|}~AZàé019 ") = "` + "`" + `ABYZ{|}~AZàé019 "
values({}) = []
values({b = 1, a = [2], c = null}) = [[2], 1, null]
zip([], []) = {}
zip(["b", "a", ""], [1, null, [2]]) = {"" = [2], a = null, b = 1}`

// good are calls that answer, each with what it answers.
type good struct {
	name string
	args []api.Value
	v    api.Value
}

func goods() []good {
	var l []good
	for line := range strings.SplitSeq(works, "\n") {
		in, want, ok := strings.Cut(line, ") = ")
		// A number that no literal tells.
		v := value.Int(-1 << 63)
		if !ok {
			panic(line)
		}
		if want != "m9223372036854775808" {
			v = read(want)
		}
		name, args := call(in + ")")
		l = append(l, good{name, args, v})
	}
	return l
}

// P13.2: what each function answers.
func TestWorks(t *testing.T) {
	seen := map[string]int{}
	for _, g := range goods() {
		answers(t, g.name, g.args, g.v, api.OK)
		seen[g.name]++
	}
	for _, r := range rows() {
		if seen[r.name] < 2 {
			t.Error(r.name, "isn't called")
		}
	}
}

// P13.2: what the table says that is wrong, behind the types.
func TestFails(t *testing.T) {
	for in, e := range map[string]api.Errno{
		`element([1, 2], -1)`:                     api.ErrArg,
		`element([], -1)`:                         api.ErrArg,
		`element([], 0)`:                          api.ErrNone,
		`element([], 1)`:                          api.ErrNone,
		`first()`:                                 api.ErrNone,
		`first(null)`:                             api.ErrNone,
		`first(null, m(null))`:                    api.ErrNone,
		`has(1, 1)`:                               api.ErrType,
		`has(true, "a")`:                          api.ErrType,
		`has(null, null)`:                         api.ErrType,
		`has(null, "a")`:                          api.ErrType,
		`has(1, "1")`:                             api.ErrType,
		`has("a1", 1)`:                            api.ErrType,
		`has("a", null)`:                          api.ErrType,
		`has("a", ["a"])`:                         api.ErrType,
		`has({a = 1}, 1)`:                         api.ErrType,
		`has({a = 1}, null)`:                      api.ErrType,
		`has({}, ["a"])`:                          api.ErrType,
		`index([], null)`:                         api.ErrNone,
		`index([1, [2], "3"], 2)`:                 api.ErrNone,
		`index([1, [2], "3"], 3)`:                 api.ErrNone,
		`length(1)`:                               api.ErrType,
		`length(true)`:                            api.ErrType,
		`length(null)`:                            api.ErrType,
		`max()`:                                   api.ErrArg,
		`min()`:                                   api.ErrArg,
		`number("")`:                              api.ErrForm,
		`number("07")`:                            api.ErrForm,
		`number("-0")`:                            api.ErrForm,
		`number("1 ")`:                            api.ErrForm,
		`number("true")`:                          api.ErrForm,
		`number("9223372036854775808")`:           api.ErrOver,
		`number("-9223372036854775809")`:          api.ErrOver,
		`number(null)`:                            api.ErrType,
		`number([])`:                              api.ErrType,
		`number({})`:                              api.ErrType,
		`one([1, 2])`:                             api.ErrArg,
		`one([null, null])`:                       api.ErrArg,
		`range(0, 129)`:                           api.ErrLong,
		`range(-1, 128)`:                          api.ErrLong,
		`range(-9223372036854775807, 2)`:          api.ErrLong,
		`range(-2, 9223372036854775807)`:          api.ErrLong,
		`repeat("a", -1)`:                         api.ErrArg,
		`repeat("", -1)`:                          api.ErrArg,
		`repeat("", -9223372036854775807)`:        api.ErrArg,
		`repeat("", 1025)`:                        api.ErrLong,
		`repeat("a", 1025)`:                       api.ErrLong,
		`repeat("ab", 513)`:                       api.ErrLong,
		`repeat("abcd", 4611686018427387904)`:     api.ErrLong,
		`repeat("", 9223372036854775807)`:         api.ErrLong,
		`replace("abc", "", "x")`:                 api.ErrArg,
		`replace("", "", "")`:                     api.ErrArg,
		`slice([1, 2, 3], -1, 2)`:                 api.ErrArg,
		`slice([1, 2, 3], 2, 1)`:                  api.ErrArg,
		`slice([1, 2, 3], 0, 4)`:                  api.ErrArg,
		`slice([1, 2, 3], 4, 4)`:                  api.ErrArg,
		`slice([1, 2, 3], 0, -1)`:                 api.ErrArg,
		`slice([1, 2, 3], -1, -1)`:                api.ErrArg,
		`slice([], 0, 9223372036854775807)`:       api.ErrArg,
		`split("", "abc")`:                        api.ErrArg,
		`split("", "")`:                           api.ErrArg,
		`substr("abc", -1, 1)`:                    api.ErrArg,
		`substr("abc", 1, -1)`:                    api.ErrArg,
		`substr("abc", 9, -1)`:                    api.ErrArg,
		`sum([9223372036854775807, 1])`:           api.ErrOver,
		`sum([9223372036854775807, 1, -1])`:       api.ErrOver,
		`sum([-9223372036854775807, -1, -1])`:     api.ErrOver,
		`text(null)`:                              api.ErrType,
		`text([])`:                                api.ErrType,
		`text({})`:                                api.ErrType,
		`truth(2)`:                                api.ErrForm,
		`truth(-1)`:                               api.ErrForm,
		`truth("")`:                               api.ErrForm,
		`truth("True")`:                           api.ErrForm,
		`truth("true ")`:                          api.ErrForm,
		`truth("1")`:                              api.ErrForm,
		`truth(null)`:                             api.ErrType,
		`truth([])`:                               api.ErrType,
		`truth({})`:                               api.ErrType,
		`zip(["a"], [])`:                          api.ErrArg,
		`zip([], [1])`:                            api.ErrArg,
		`zip(["a", "a"], [1])`:                    api.ErrArg,
		`zip(["a", "a"], [1, 2, 3])`:              api.ErrArg,
		`zip(["a", "a"], [1, 1])`:                 api.ErrTwice,
		`zip(["b", "a", "c", "b"], [1, 2, 3, 4])`: api.ErrTwice,
	} {
		name, args := call(in)
		answers(t, name, args, null, e)
		// An error is the same of what is marked, and has no mark.
		for _, l := range changed(args, value.Mark) {
			answers(t, name, l, null, e)
		}
	}
	answers(t, "abs", []api.Value{value.Int(-1 << 63)}, null, api.ErrOver)
	answers(t, "sum", []api.Value{value.List(value.Int(-1<<63), value.Int(-1))}, null, api.ErrOver)
	answers(t, "sign", []api.Value{value.Int(-1 << 63)}, value.Int(-1), api.OK)
	answers(t, "text", []api.Value{value.Int(-1 << 63)}, value.Str("-9223372036854775808"), api.OK)
	answers(t, "min", []api.Value{value.Int(5), value.Int(-1 << 63)}, value.Int(-1<<63), api.OK)
	answers(t, "max", []api.Value{value.Int(-1 << 63)}, value.Int(-1<<63), api.OK)
	answers(t, "range", []api.Value{value.Int(-1 << 63), value.Int(-1<<63 + 1)}, value.List(value.Int(-1<<63)), api.OK)
	answers(t, "range", []api.Value{value.Int(-1 << 63), value.Int(1<<63 - 1)}, null, api.ErrLong)
	answers(t, "range", []api.Value{value.Int(1<<63 - 1), value.Int(-1 << 63)}, value.List(), api.OK)
	answers(t, "element", []api.Value{value.List(null), value.Int(-1 << 63)}, null, api.ErrArg)
	answers(t, "repeat", []api.Value{value.Str(""), value.Int(-1 << 63)}, null, api.ErrArg)
}

// P13.2: texts are bytes: of each byte what becomes of it.
func TestBytes(t *testing.T) {
	for c := range 256 {
		b := byte(c)
		s := string([]byte{b})
		lower, upper := s, s
		if b >= 'A' && b <= 'Z' {
			lower = string([]byte{b + 32})
		}
		if b >= 'a' && b <= 'z' {
			upper = string([]byte{b - 32})
		}
		trimmed := s
		if b == ' ' || b == '\t' || b == '\n' {
			trimmed = ""
		}
		one := func(name, in, want string) {
			t.Helper()
			answers(t, name, []api.Value{value.Str(in)}, value.Str(want), api.OK)
		}
		one("lower", s, lower)
		one("upper", s, upper)
		one("lower", "\xff"+s+"\xc3Q", "\xff"+lower+"\xc3q")
		one("upper", "\xff"+s+"\xc3q", "\xff"+upper+"\xc3Q")
		one("trim", s, trimmed)
		if trimmed == "" {
			one("trim", s+"a"+s, "a")
			one("trim", "a"+s+"a", "a"+s+"a")
		} else {
			one("trim", " \n\t"+s+s+"\t \n", s+s)
		}
		one("text", s, s)
		answers(t, "length", []api.Value{value.Str(s + s)}, value.Int(2), api.OK)
		answers(t, "split", []api.Value{value.Str(s), value.Str("\xfe" + s + "\xfd\xfc")}, splitBy("\xfe"+s+"\xfd\xfc", b), api.OK)
		answers(t, "substr", []api.Value{value.Str("é" + s + "é"), value.Int(1), value.Int(2)}, value.Str("\xa9"+s), api.OK)
		answers(t, "sort", []api.Value{value.List(value.Str("\x80"), value.Str(s))}, value.List(value.Str(min(s, "\x80")), value.Str(max(s, "\x80"))), api.OK)
	}
}

// splitBy are the pieces of s between the bytes b.
func splitBy(s string, b byte) api.Value {
	l := []api.Value{value.Str("")}
	for i := range len(s) {
		if s[i] == b {
			l = append(l, value.Str(""))
		} else {
			l[len(l)-1].S += s[i : i+1]
		}
	}
	return value.List(l...)
}
