package value

import (
	"fmt"
	"math"
	"reflect"
	"slices"
	"strings"
	"testing"

	"surety/api"
	"surety/typ"
)

func ty(kind, of int) api.Type { return api.Type{Kind: kind, Of: of} }

// dict is a map as it is given, whatever its keys.
func dict(keys []string, l ...api.Value) api.Value {
	return api.Value{Kind: api.VMap, Keys: keys, L: l}
}

func nested(n int, v api.Value) api.Value {
	for range n {
		v = api.Value{Kind: api.VList, L: []api.Value{v}}
	}
	return v
}

func manyInts(n int) []api.Value {
	l := make([]api.Value, n)
	for i := range l {
		l[i] = Int(int64(i))
	}
	return l
}

// manyKeys are n keys that rise.
func manyKeys(n int) []string {
	l := make([]string, n)
	for i := range l {
		l[i] = string([]byte{byte(i >> 8), byte(i)})
	}
	return l
}

var null = api.Value{}

// brief is the beginning of a value's text, or what is told of one that is so deep that its text has no end worth reading.
func brief(v api.Value) string {
	x := v
	for range 20 {
		if len(x.L) == 0 {
			s := fmt.Sprint(v)
			return s[:min(len(s), 300)]
		}
		x = x.L[len(x.L)-1]
	}
	return "something deep"
}

// atoms are values without elements, all that may be and differ in what matters.
func atoms() []api.Value {
	l := []api.Value{null, Bool(false), Bool(true), Int(math.MinInt64), Int(-1), Int(0), Int(1), Int(math.MaxInt64), Str(""), Str("a"), Str("a\x00"), Str("ab"), Str("b"), Str("\xff")}
	for _, t := range typ.All() {
		l = append(l, Unknown(t))
	}
	return l
}

// pool are values that may be, all unlike.
func pool() []api.Value {
	short := []api.Value{null, Bool(true), Int(1), Int(2), Str("a"), Unknown(ty(api.Any, 0)), Unknown(ty(api.Int, 0)), Unknown(ty(api.List, api.Int)), List(), List(Int(1))}
	l := append(atoms(), List(), dict(nil))
	for _, a := range short {
		l = append(l, List(a), dict([]string{""}, a), dict([]string{"a"}, a), dict([]string{"b"}, a), List(List(a)), List(dict([]string{"a"}, a)), dict([]string{"a"}, List(a)))
		for _, b := range short {
			l = append(l, List(a, b), dict([]string{"a", "b"}, a, b))
		}
	}
	return slices.CompactFunc(l, Like)
}

func check(t *testing.T, what string, v api.Value, want api.Errno) {
	t.Helper()
	if e := Check(v); e != want {
		t.Errorf("Check of %s = %d; want %d", what, e, want)
	}
}

// P4.1: each kind, at its ends, marked and not.
func TestCheckOfWhatMayBe(t *testing.T) {
	for _, v := range append(pool(), atoms()...) {
		check(t, "one that may be", v, api.OK)
		check(t, "a marked one", Mark(v), api.OK)
		check(t, "one with a marked element", List(Mark(v)), api.OK)
	}
	check(t, "the longest text", Str(strings.Repeat("x", api.MaxStr)), api.OK)
	check(t, "the longest list", List(manyInts(api.MaxItems)...), api.OK)
	check(t, "the longest map", dict(manyKeys(api.MaxItems), manyInts(api.MaxItems)...), api.OK)
	check(t, "the longest key", dict([]string{"a", strings.Repeat("x", api.MaxStr)}, null, null), api.OK)
	check(t, "keys byte by byte", dict([]string{"", "\x00", "A", "B", "Z", "a", "aa", "b", "\x7f", "\x80", "\xff", "\xff\x00"}, make([]api.Value, 12)...), api.OK)
	check(t, "the deepest", nested(api.MaxDepth-1, Int(1)), api.OK)
}

// P4.1: what the kind doesn't name is zero; a list without elements is nothing.
func TestCheckOfFieldsThatAreNotNamed(t *testing.T) {
	fields := map[string]func(v *api.Value){
		"I":    func(v *api.Value) { v.I = 1 },
		"-I":   func(v *api.Value) { v.I = -1 },
		"S":    func(v *api.Value) { v.S = "x" },
		"L":    func(v *api.Value) { v.L = []api.Value{{}} },
		"Keys": func(v *api.Value) { v.Keys = []string{"x"} },
		"T":    func(v *api.Value) { v.T = ty(api.Int, 0) },
		"Of":   func(v *api.Value) { v.T.Of = api.Int },
	}
	wrong := map[int]string{
		api.VNull:    "I -I S L Keys T Of",
		api.VBool:    "-I S L Keys T Of",
		api.VInt:     "S L Keys T Of",
		api.VStr:     "I -I L Keys T Of",
		api.VList:    "I -I S Keys T Of",
		api.VMap:     "I -I S L Keys T Of",
		api.VUnknown: "I -I S L Keys Of",
	}
	for kind, names := range wrong {
		for name, set := range fields {
			v := api.Value{Kind: kind}
			set(&v)
			want := api.OK
			if slices.Contains(strings.Fields(names), name) {
				want = api.ErrArg
			}
			if e := Check(v); e != want {
				t.Errorf("kind %d with %s: %d; want %d", kind, name, e, want)
			}
			if e := Check(List(v)); e != want {
				t.Errorf("kind %d with %s in a list: %d; want %d", kind, name, e, want)
			}
		}
		check(t, "nothing for nil", api.Value{Kind: kind, L: []api.Value{}, Keys: []string{}}, api.OK)
	}
	// Types that are zero but for what is named.
	check(t, "a map with both", api.Value{Kind: api.VMap, Keys: []string{"x"}, L: []api.Value{{}}}, api.OK)
}

// P4.1: one step beyond each limit.
func TestCheckOfWhatMayNotBe(t *testing.T) {
	long := strings.Repeat("x", api.MaxStr+1)
	for what, v := range map[string]api.Value{
		"kind -1":                           {Kind: -1},
		"kind 7":                            {Kind: 7},
		"the least kind":                    {Kind: math.MinInt},
		"the greatest kind":                 {Kind: math.MaxInt},
		"a byte's wrap":                     {Kind: 256 + api.VInt},
		"truth 2":                           {Kind: api.VBool, I: 2},
		"truth -1":                          {Kind: api.VBool, I: -1},
		"the least truth":                   {Kind: api.VBool, I: math.MinInt64},
		"a truth of 2^32":                   {Kind: api.VBool, I: 1 << 32},
		"a long text":                       Str(long),
		"a long list":                       List(manyInts(api.MaxItems + 1)...),
		"a long map":                        dict(manyKeys(api.MaxItems+1), manyInts(api.MaxItems+1)...),
		"a long key":                        dict([]string{"a", long}, null, null),
		"a long first key":                  dict([]string{long}, null),
		"a key twice":                       dict([]string{"a", "a"}, null, null),
		"an empty key twice":                dict([]string{"", ""}, null, null),
		"keys that fall":                    dict([]string{"b", "a"}, null, null),
		"keys that fall, by bytes above 7f": dict([]string{"\xff", "a"}, null, null),
		"the last keys fall":                dict([]string{"a", "c", "b"}, null, null, null),
		"more keys":                         dict([]string{"a", "b"}, null),
		"more elements":                     dict([]string{"a"}, null, null),
		"keys alone":                        dict([]string{"a"}),
		"elements alone":                    dict(nil, null),
		"an unknown of none":                Unknown(ty(api.Any, api.Int)),
		"an unknown of -1":                  Unknown(ty(-1, 0)),
		"an unknown list of lists":          Unknown(ty(api.List, api.List)),
		"too deep":                          nested(api.MaxDepth, Int(1)),
		"too deep, empty":                   nested(api.MaxDepth, List()),
		"too deep, in a map":                dict([]string{"a"}, nested(api.MaxDepth-1, Int(1))),
		"much too deep":                     nested(1<<16, Int(1)),
	} {
		check(t, what, v, api.ErrArg)
		check(t, what+", marked", Mark(v), api.ErrArg)
		check(t, what+", behind others", List(Int(1), null, v), api.ErrArg)
		check(t, what+", in a map", dict([]string{"a", "b"}, Int(1), List(v)), api.ErrArg)
	}
}

// P4.1: the weight's edge, at several shapes.
func TestCheckOfWeight(t *testing.T) {
	// Four lists of 126: 1 + 4 (1 + 126) = 509.
	var l []api.Value
	for range 4 {
		l = append(l, List(manyInts(126)...))
	}
	for n, want := range map[int]api.Errno{2: api.OK, 3: api.OK, 4: api.ErrArg, 5: api.ErrArg} {
		v := List(append(slices.Clone(l), manyInts(n)...)...)
		if w := Weight(v); w != 509+n {
			t.Fatal(w)
		}
		check(t, "a list of lists", v, want)
		check(t, "a marked one", Mark(v), want)
	}
	// A map of lists weighs as much.
	for n, want := range map[int]api.Errno{127: api.OK, 128: api.ErrArg} {
		one := List(manyInts(127)...)
		v := dict([]string{"a", "b", "c", "d"}, one, one, one, List(manyInts(n-1)...))
		if w := Weight(v); w != 1+3*128+n {
			t.Fatal(w)
		}
		check(t, "a map of lists", v, want)
	}
}

// P4.1, R1: Check ends soon, also of what holds itself, or the same again and again.
func TestCheckEnds(t *testing.T) {
	v := Int(1)
	for range 200 {
		v = api.Value{Kind: api.VList, L: []api.Value{v, v}}
	}
	check(t, "a tower of twos", v, api.ErrArg)
	wide := make([]api.Value, api.MaxItems)
	for range 7 {
		w := make([]api.Value, api.MaxItems)
		for i := range w {
			w[i] = api.Value{Kind: api.VList, L: wide}
		}
		wide = w
	}
	check(t, "a wide tower", api.Value{Kind: api.VList, L: wide}, api.ErrArg)
	ring := make([]api.Value, 1)
	ring[0] = api.Value{Kind: api.VList, L: ring}
	check(t, "a ring", ring[0], api.ErrArg)
	check(t, "a great list", List(make([]api.Value, 1<<20)...), api.ErrArg)
}

// P4.1: what is made; none is asked whether it may be.
func TestMakers(t *testing.T) {
	long := strings.Repeat("x", 2*api.MaxStr)
	for _, x := range []struct{ got, want api.Value }{
		{Bool(false), api.Value{Kind: api.VBool}},
		{Bool(true), api.Value{Kind: api.VBool, I: 1}},
		{Int(0), api.Value{Kind: api.VInt}},
		{Int(math.MinInt64), api.Value{Kind: api.VInt, I: math.MinInt64}},
		{Int(math.MaxInt64), api.Value{Kind: api.VInt, I: math.MaxInt64}},
		{Str(""), api.Value{Kind: api.VStr}},
		{Str("a\x00\xff"), api.Value{Kind: api.VStr, S: "a\x00\xff"}},
		{Str(long), api.Value{Kind: api.VStr, S: long}},
		{List(), api.Value{Kind: api.VList}},
		{List([]api.Value{}...), api.Value{Kind: api.VList}},
		{List(Int(1), null, Mark(Str("a"))), api.Value{Kind: api.VList, L: []api.Value{{Kind: api.VInt, I: 1}, {}, {Kind: api.VStr, S: "a", Secret: true}}}},
		{List(api.Value{Kind: 99}), api.Value{Kind: api.VList, L: []api.Value{{Kind: 99}}}},
		{Unknown(ty(api.Map, api.Str)), api.Value{Kind: api.VUnknown, T: ty(api.Map, api.Str)}},
		{Unknown(ty(-7, 99)), api.Value{Kind: api.VUnknown, T: ty(-7, 99)}},
	} {
		if !Same(x.got, x.want) {
			t.Errorf("%v; want %v", x.got, x.want)
		}
	}
	if v := List(make([]api.Value, 1000)...); len(v.L) != 1000 {
		t.Error("a list that may not be")
	}
}

// P4.1: Make puts keys in their order, each with its element.
func TestMake(t *testing.T) {
	long := strings.Repeat("x", 2*api.MaxStr)
	for _, x := range []struct {
		keys []string
		l    []api.Value
		want api.Value
		e    api.Errno
	}{
		{nil, nil, dict(nil), api.OK},
		{[]string{}, nil, dict(nil), api.OK},
		{nil, []api.Value{}, dict(nil), api.OK},
		{[]string{"a"}, []api.Value{Int(1)}, dict([]string{"a"}, Int(1)), api.OK},
		{[]string{"c", "a", "b"}, []api.Value{Int(3), Mark(Int(1)), Int(2)}, dict([]string{"a", "b", "c"}, Mark(Int(1)), Int(2), Int(3)), api.OK},
		{[]string{"a", "b", "c"}, []api.Value{Int(1), Int(2), Int(3)}, dict([]string{"a", "b", "c"}, Int(1), Int(2), Int(3)), api.OK},
		{[]string{"\xff", "", "a\x00", "a", "Z"}, []api.Value{Int(5), Int(1), Int(4), Int(3), Int(2)}, dict([]string{"", "Z", "a", "a\x00", "\xff"}, Int(1), Int(2), Int(3), Int(4), Int(5)), api.OK},
		{[]string{long, "a"}, []api.Value{{Kind: 99}, null}, dict([]string{"a", long}, null, api.Value{Kind: 99}), api.OK},
		{[]string{"a"}, nil, null, api.ErrArg},
		{nil, []api.Value{Int(1)}, null, api.ErrArg},
		{[]string{"a", "b"}, []api.Value{Int(1)}, null, api.ErrArg},
		{[]string{"a", "a"}, []api.Value{Int(1)}, null, api.ErrArg},
		{[]string{"a", "a", "b"}, []api.Value{Int(1), Int(2), Int(3), Int(4)}, null, api.ErrArg},
		{[]string{"a", "a"}, []api.Value{Int(1), Int(1)}, null, api.ErrTwice},
		{[]string{"", ""}, []api.Value{Int(1), Int(1)}, null, api.ErrTwice},
		{[]string{"b", "a", "c", "b"}, manyInts(4), null, api.ErrTwice},
	} {
		if v, e := Make(x.keys, x.l); !Same(v, x.want) || e != x.e {
			t.Errorf("Make(%.40q, %v) = %v, %d; want %v, %d", x.keys, x.l, v, e, x.want, x.e)
		}
	}
	keys, l := manyKeys(1000), manyInts(1000)
	slices.Reverse(keys)
	slices.Reverse(l)
	if v, e := Make(keys, l); e != api.OK || !Same(v, dict(manyKeys(1000), manyInts(1000)...)) {
		t.Error("many keys")
	}
}

// P4.2: Same and Like by each field, also those that the kind doesn't name; nil and nothing are the same.
func TestSameAndLike(t *testing.T) {
	for kind := -1; kind <= 7; kind++ {
		base := func() api.Value {
			return api.Value{Kind: kind, I: 1, S: "s", L: []api.Value{Int(1), List(Int(2))}, Keys: []string{"b", "a", "a"}, T: ty(api.List, api.Int)}
		}
		if !Same(base(), base()) || !Like(base(), base()) {
			t.Errorf("kind %d isn't the same as itself", kind)
		}
		for what, change := range map[string]func(v *api.Value){
			"Kind":         func(v *api.Value) { v.Kind += 8 },
			"I":            func(v *api.Value) { v.I = 2 },
			"S":            func(v *api.Value) { v.S = "t" },
			"an element":   func(v *api.Value) { v.L[0].I = 7 },
			"a deep one":   func(v *api.Value) { v.L[1].L[0].S = "x" },
			"fewer":        func(v *api.Value) { v.L = v.L[:1] },
			"none":         func(v *api.Value) { v.L = nil },
			"more":         func(v *api.Value) { v.L = append(v.L, null) },
			"a key":        func(v *api.Value) { v.Keys[2] = "c" },
			"keys' places": func(v *api.Value) { v.Keys[0], v.Keys[1] = "a", "b" },
			"fewer keys":   func(v *api.Value) { v.Keys = v.Keys[:2] },
			"no keys":      func(v *api.Value) { v.Keys = nil },
			"T":            func(v *api.Value) { v.T.Kind = api.Map },
			"Of":           func(v *api.Value) { v.T.Of = api.Str },
		} {
			v := base()
			change(&v)
			if Same(v, base()) || Same(base(), v) || Like(v, base()) || Like(base(), v) {
				t.Errorf("kind %d, %s: the same", kind, what)
			}
		}
		for what, mark := range map[string]func(v *api.Value){
			"itself":     func(v *api.Value) { v.Secret = true },
			"an element": func(v *api.Value) { v.L[0].Secret = true },
			"a deep one": func(v *api.Value) { v.L[1].L[0].Secret = true },
		} {
			v := base()
			mark(&v)
			if Same(v, base()) || Same(base(), v) || !Same(v, v) || !Like(v, base()) || !Like(base(), v) {
				t.Errorf("kind %d, %s marked", kind, what)
			}
		}
		if x, y := (api.Value{Kind: kind}), (api.Value{Kind: kind, L: []api.Value{}, Keys: []string{}}); !Same(x, y) || !Same(y, x) || !Like(x, y) || !Like(y, x) {
			t.Errorf("kind %d: nil isn't nothing", kind)
		}
	}
}

// odd are values of shapes in which not all that is there counts, each with the value whose elements are those that do count.
func odd() [][2]api.Value {
	x := Mark(Unknown(ty(api.Int, 0)))
	var l [][2]api.Value
	for _, kind := range []int{api.VNull, api.VBool, api.VInt, api.VStr, -1, 7, 99} {
		l = append(l, [2]api.Value{{Kind: kind, L: []api.Value{x, List(x)}, Keys: []string{"a", "b"}}, {Kind: kind}})
	}
	u := Unknown(ty(api.Str, 0))
	return append(l, [][2]api.Value{
		{dict([]string{"a"}, Int(1), x, List(x)), dict([]string{"a"}, Int(1))},
		{dict(nil, x), dict(nil)},
		{dict([]string{"a", "b", "c"}, Int(1)), dict([]string{"a"}, Int(1))},
		{dict([]string{"a", "b", "c"}), dict(nil)},
		{{Kind: api.VList, L: []api.Value{Int(1)}, Keys: []string{"b", "a"}}, List(Int(1))},
		{{Kind: api.VUnknown, T: u.T, L: []api.Value{x}, Keys: []string{"a"}}, u},
		{List(dict([]string{"a"}, Int(1), x)), List(dict([]string{"a"}, Int(1)))},
		{dict([]string{"k"}, api.Value{Kind: api.VInt, I: 4, L: []api.Value{x}}), dict([]string{"k"}, Int(4))},
	}...)
}

// P4.2: Known and Secret, at any depth, and of elements that don't count.
func TestKnownAndSecret(t *testing.T) {
	u := Unknown(ty(api.Any, 0))
	for _, v := range []api.Value{null, Bool(true), Int(1), Str("a"), List(), dict(nil), List(Int(1), null), dict([]string{"a", "b"}, Int(1), List()), {Kind: 9}, {Kind: -1}, nested(1000, Int(1))} {
		if !Known(v) || Secret(v) {
			t.Errorf("%s: known %v, secret %v", brief(v), Known(v), Secret(v))
		}
		for what, w := range map[string]api.Value{
			"itself":      v,
			"in a list":   List(Int(1), v),
			"in a map":    dict([]string{"a", "b"}, v, null),
			"deep inside": List(List(), dict([]string{"a"}, List(v, Int(2))), null),
			"very deep":   nested(1000, v),
		} {
			if !Known(w) || Secret(w) {
				t.Errorf("%s, %s", brief(v), what)
			}
		}
	}
	for what, in := range map[string]func(v api.Value) api.Value{
		"itself":      func(v api.Value) api.Value { return v },
		"in a list":   func(v api.Value) api.Value { return List(Int(1), v) },
		"first":       func(v api.Value) api.Value { return List(v, Int(1)) },
		"in a map":    func(v api.Value) api.Value { return dict([]string{"a", "b"}, v, null) },
		"deep inside": func(v api.Value) api.Value { return List(List(), dict([]string{"a"}, List(v, Int(2))), null) },
		"very deep":   func(v api.Value) api.Value { return nested(1000, v) },
	} {
		if w := in(u); Known(w) || Secret(w) {
			t.Errorf("unknown, %s", what)
		}
		for _, v := range []api.Value{null, Int(1), List(), List(Int(1)), dict(nil), {Kind: 9}} {
			if w := in(Mark(v)); !Known(w) || !Secret(w) {
				t.Errorf("%v marked, %s", v, what)
			}
		}
		if w := in(Mark(u)); Known(w) || !Secret(w) {
			t.Errorf("unknown and marked, %s", what)
		}
	}
	for _, x := range odd() {
		if Known(x[0]) != Known(x[1]) || Secret(x[0]) {
			t.Errorf("%v: known %v, secret %v", x[0], Known(x[0]), Secret(x[0]))
		}
	}
}

// P4.2: Mark marks the value itself and nothing else; Bare takes all marks, Copy none; all fields go along.
func TestMarkBareCopy(t *testing.T) {
	for kind := -1; kind <= 7; kind++ {
		with := func(a, b, c bool) api.Value {
			return api.Value{Kind: kind, I: 5, S: "s", Keys: []string{"b", "a", "b"}, T: ty(9, -9), Secret: a,
				L: []api.Value{{Kind: api.VInt, I: 1, Secret: b}, {Kind: api.VStr, L: []api.Value{{Kind: api.VList, Secret: c}}, Keys: []string{"x"}}}}
		}
		for i := range 8 {
			a, b, c := i&1 != 0, i&2 != 0, i&4 != 0
			v := with(a, b, c)
			if x := Mark(v); !reflect.DeepEqual(x, with(true, b, c)) {
				t.Errorf("Mark(%v) = %v", v, x)
			}
			if x := Bare(v); !reflect.DeepEqual(x, with(false, false, false)) {
				t.Errorf("Bare(%v) = %v", v, x)
			}
			if x := Copy(v); !reflect.DeepEqual(x, with(a, b, c)) {
				t.Errorf("Copy(%v) = %v", v, x)
			}
			if !reflect.DeepEqual(v, with(a, b, c)) {
				t.Errorf("%v was changed", v)
			}
		}
	}
}

// spoil changes all that a value's lists hold, the room behind their length too.
func spoil(v api.Value) {
	for _, x := range v.L {
		spoil(x)
	}
	for i := range v.L[:cap(v.L)] {
		v.L[:cap(v.L)][i] = Str("spoilt")
	}
	for i := range v.Keys[:cap(v.Keys)] {
		v.Keys[:cap(v.Keys)][i] = "spoilt"
	}
}

// roomy is a value whose lists have room behind their length, with something in it.
func roomy() api.Value {
	keys := []string{"a", "b", "room"}
	in := []api.Value{Int(1), Mark(Int(2)), Str("room")}
	l := []api.Value{{Kind: api.VList, L: in[:2]}, {Kind: api.VMap, Keys: []string{"k", "room"}[:1], L: []api.Value{Int(3), Str("room")}[:1]}, Str("room")}
	return api.Value{Kind: api.VMap, Keys: keys[:2], L: l[:2]}
}

// R4: what is answered is new memory, the room behind it too, and what is handed in is as it was.
func TestNewMemory(t *testing.T) {
	for what, call := range map[string]func(v api.Value) api.Value{
		"Copy":  Copy,
		"Bare":  Bare,
		"Mark":  Mark,
		"List":  func(v api.Value) api.Value { return List(v.L...) },
		"Lists": func(v api.Value) api.Value { return List(v, v) },
		"Make": func(v api.Value) api.Value {
			x, _ := Make(v.Keys, v.L)
			return x
		},
		"Get": func(v api.Value) api.Value {
			x, _ := Get(v, "a")
			return x
		},
		"a map of Get": func(v api.Value) api.Value {
			x, _ := Get(v, "b")
			return x
		},
		"At": func(v api.Value) api.Value {
			x, _ := At(api.Value{Kind: api.VList, L: v.L}, 1)
			return x
		},
	} {
		v := roomy()
		x := call(v)
		was := Copy(x)
		if len(x.L) == 0 {
			t.Errorf("%s: nothing is answered", what)
		}
		spoil(v)
		if !Same(x, was) {
			t.Errorf("%s: the answer hangs on the argument", what)
		}
		v = roomy()
		spoil(call(v))
		if !reflect.DeepEqual(v, roomy()) || v.L[:3][2].S != "room" || v.Keys[:3][2] != "room" || v.L[0].L[:3][2].S != "room" {
			t.Errorf("%s: the argument hangs on the answer", what)
		}
	}
	// The lists of one answer share nothing either.
	one := List(Int(1))
	x := Copy(api.Value{Kind: api.VList, L: []api.Value{one, one}})
	x.L[0].L[0].I = 7
	if x.L[1].L[0].I != 1 || one.L[0].I != 1 {
		t.Error("two lists of one answer share")
	}
}

// P4.2: Weight and Depth.
func TestWeightAndDepth(t *testing.T) {
	for _, x := range []struct {
		v             api.Value
		weight, depth int
	}{
		{null, 1, 1},
		{Int(1), 1, 1},
		{Str("abc"), 1, 1},
		{Unknown(ty(api.List, api.Int)), 1, 1},
		{api.Value{Kind: 99}, 1, 1},
		{List(), 1, 1},
		{dict(nil), 1, 1},
		{List(Int(1)), 2, 2},
		{List(Int(1), Int(2), null), 4, 2},
		{List(List(), List()), 3, 2},
		{List(List(Int(1)), Int(2)), 4, 3},
		{List(Int(2), List(Int(1))), 4, 3},
		{dict([]string{"a", "b"}, List(Int(1), Int(2)), dict([]string{"c"}, List(null))), 7, 4},
		{List(manyInts(1000)...), 1001, 2},
		{nested(7, Int(1)), 8, 8},
		{nested(1<<16-1, Int(1)), 1 << 16, 1 << 16},
	} {
		for _, v := range []api.Value{x.v, Mark(x.v)} {
			if w, d := Weight(v), Depth(v); w != x.weight || d != x.depth {
				t.Errorf("%s: weight %d, depth %d; want %d, %d", brief(v), w, d, x.weight, x.depth)
			}
		}
	}
	for _, x := range odd() {
		if Weight(x[0]) != Weight(x[1]) || Depth(x[0]) != Depth(x[1]) {
			t.Errorf("%v: weight %d, depth %d", x[0], Weight(x[0]), Depth(x[0]))
		}
	}
}

// P4.3: TypeOf, written out.
func TestTypeOf(t *testing.T) {
	li, ls, lb, l0 := ty(api.List, api.Int), ty(api.List, api.Str), ty(api.List, api.Bool), ty(api.List, 0)
	mi, m0 := ty(api.Map, api.Int), ty(api.Map, 0)
	u := func(kind, of int) api.Value { return Unknown(ty(kind, of)) }
	for _, x := range []struct {
		v api.Value
		t api.Type
	}{
		{null, ty(api.Any, 0)},
		{Bool(true), ty(api.Bool, 0)},
		{Int(-1), ty(api.Int, 0)},
		{Str(""), ty(api.Str, 0)},
		{List(), l0},
		{dict(nil), m0},
		{List(Int(1)), li},
		{List(Int(1), Mark(Int(2))), li},
		{List(Str("a")), ls},
		{List(Bool(true), Bool(false)), lb},
		{List(Int(1), Str("a")), l0},
		{List(Str("a"), Int(1), Int(1)), l0},
		{List(Int(1), null), l0},
		{List(null, Int(1)), l0},
		{List(null), l0},
		{List(List()), l0},
		{List(List(Int(1))), l0},
		{List(List(Int(1)), List(Str("a"))), l0},
		{List(List(Int(1)), Int(1)), l0},
		{List(dict(nil)), l0},
		{List(Int(1), u(api.Int, 0)), li},
		{List(u(api.Int, 0)), li},
		{List(u(api.Int, 0), u(api.Str, 0)), l0},
		{List(u(api.Any, 0)), l0},
		{List(u(api.Any, 0), Int(1)), l0},
		{List(Int(1), u(api.Any, 0)), l0},
		{List(u(api.List, api.Int)), l0},
		{List(u(api.Map, api.Int)), l0},
		{dict([]string{"a"}, Int(1)), mi},
		{dict([]string{"a", "b"}, Int(1), u(api.Int, 0)), mi},
		{dict([]string{"a", "b"}, Int(1), Str("a")), m0},
		{dict([]string{"a"}, List(Int(1))), m0},
		{dict([]string{"a", "b"}, null, Int(1)), m0},
		{u(api.List, api.Int), li},
		{u(api.Any, 0), ty(api.Any, 0)},
		// Shapes that may not be.
		{u(9, 9), ty(9, 9)},
		{List(u(9, 9)), l0},
		{List(u(9, 0)), l0},
		{List(u(api.Int, 1), u(api.Int, 1)), l0},
		{List(Int(1), u(9, 0)), l0},
		{api.Value{Kind: 99}, ty(api.Any, 0)},
		{api.Value{Kind: -1}, ty(api.Any, 0)},
		{List(api.Value{Kind: 99}), l0},
		{dict([]string{"a"}, Int(1), Str("no")), mi},
		{dict([]string{"a", "b"}, Int(1)), mi},
		{dict(nil, Int(1)), m0},
		{dict([]string{"a"}), m0},
		{api.Value{Kind: api.VInt, S: "x", L: []api.Value{{}}, T: li}, ty(api.Int, 0)},
		{nested(1<<16-1, Int(1)), l0},
	} {
		for _, v := range []api.Value{x.v, Mark(x.v)} {
			if got := TypeOf(v); got != x.t {
				t.Errorf("TypeOf(%s) = %v; want %v", brief(v), got, x.t)
			}
		}
	}
}

// fitting are the texts of the types that a value fits.
var fitting = []struct {
	v     api.Value
	texts string
}{
	{null, "any bool int str list list(bool) list(int) list(str) map map(bool) map(int) map(str)"},
	{Bool(true), "any bool"},
	{Int(1), "any int"},
	{Str("1"), "any str"},
	{List(), "any list list(bool) list(int) list(str)"},
	{List(null), "any list list(bool) list(int) list(str)"},
	{List(Int(1)), "any list list(int)"},
	{List(Int(1), null), "any list list(int)"},
	{List(Int(1), Str("a")), "any list"},
	{List(Str("a"), Int(1)), "any list"},
	{List(Bool(true)), "any list list(bool)"},
	{List(List()), "any list"},
	{List(List(Int(1)), null), "any list"},
	{List(Unknown(ty(api.Str, 0)), Str("a")), "any list list(str)"},
	{List(Unknown(ty(api.Any, 0))), "any list"},
	{dict(nil), "any map map(bool) map(int) map(str)"},
	{dict([]string{"a"}, Str("x")), "any map map(str)"},
	{dict([]string{"a", "b"}, Str("x"), Int(1)), "any map"},
	{dict([]string{"a"}, List(Str("x"))), "any map"},
	{Unknown(ty(api.Any, 0)), "any"},
	{Unknown(ty(api.Bool, 0)), "any bool"},
	{Unknown(ty(api.Int, 0)), "any int"},
	{Unknown(ty(api.Str, 0)), "any str"},
	{Unknown(ty(api.List, 0)), "any list"},
	{Unknown(ty(api.List, api.Int)), "any list list(int)"},
	{Unknown(ty(api.Map, 0)), "any map"},
	{Unknown(ty(api.Map, api.Str)), "any map map(str)"},
	// Shapes that may not be.
	{api.Value{Kind: 99}, "any"},
	{api.Value{Kind: -1}, "any"},
	{List(api.Value{Kind: 99}), "any list"},
	{Unknown(ty(9, 9)), "any"},
	{dict([]string{"a"}, Int(1), Str("no")), "any map map(int)"},
	{dict([]string{"a", "b"}), "any map map(bool) map(int) map(str)"},
	{api.Value{Kind: api.VBool, I: 9, L: []api.Value{{Kind: 99}}}, "any bool"},
	{nested(1<<16-1, Int(1)), "any list"},
}

// P4.3: Fits, each value with each type; and an unknown one is refined by what fits its type.
func TestFits(t *testing.T) {
	for _, x := range fitting {
		for _, ty := range typ.All() {
			want := slices.Contains(strings.Fields(x.texts), typ.Text(ty))
			for _, v := range []api.Value{x.v, Mark(x.v)} {
				if Fits(v, ty) != want {
					t.Errorf("does %s fit %s: %v", brief(v), typ.Text(ty), !want)
				}
				if Refines(v, Unknown(ty)) != want || Refines(v, Mark(Unknown(ty))) != want {
					t.Errorf("does %s refine unknown %s: %v", brief(v), typ.Text(ty), !want)
				}
			}
		}
		for _, no := range []api.Type{ty(9, 0), ty(-1, 0), ty(math.MaxInt, math.MinInt)} {
			if Fits(x.v, no) != (x.v.Kind == api.VNull) {
				t.Errorf("%s fits %v", brief(x.v), no)
			}
		}
	}
}

// P4.3: TypeOf is the least type that a value fits: by its words, where nothing in it is null.
func TestTypeOfIsLeast(t *testing.T) {
	for _, v := range pool() {
		if !Fits(v, TypeOf(v)) || typ.Check(TypeOf(v)) != api.OK {
			t.Errorf("%v doesn't fit %v", v, TypeOf(v))
		}
		if v.Kind == api.VNull || len(v.L) == 0 || slices.ContainsFunc(v.L, func(x api.Value) bool { return x.Kind == api.VNull }) {
			continue
		}
		for _, ty := range typ.All() {
			if Fits(v, ty) != typ.Within(TypeOf(v), ty) {
				t.Errorf("%v: %v isn't the least: %v", v, TypeOf(v), ty)
			}
		}
	}
}

// P4.3: Refines, written out.
func TestRefines(t *testing.T) {
	u := Unknown(ty(api.Int, 0))
	open := Unknown(ty(api.Any, 0))
	ab := []string{"a", "b"}
	for _, x := range []struct {
		a, b api.Value
		want bool
	}{
		{List(Int(1), Int(2)), List(u, Int(2)), true},
		{List(Int(1), Int(2)), List(u, Int(3)), false},
		{List(Str("a"), Int(2)), List(u, Int(2)), false},
		{List(null, Int(2)), List(u, Int(2)), true},
		{List(u, Int(2)), List(u, Int(2)), true},
		{List(u, Int(2)), List(Int(1), Int(2)), false},
		{List(u), List(open), true},
		{List(open), List(u), false},
		{List(Int(1)), List(Int(1), Int(2)), false},
		{List(Int(1), Int(2)), List(Int(1)), false},
		{List(), List(), true},
		{List(), dict(nil), false},
		{dict(nil), List(), false},
		{List(List(Int(1))), List(List(u)), true},
		{List(List(Str("1"))), List(List(u)), false},
		{List(List(Int(1))), List(u), false},
		{List(List(Int(1))), List(Unknown(ty(api.List, api.Int))), true},
		{List(List(Int(1))), List(Unknown(ty(api.List, api.Str))), false},
		{dict(ab, Int(1), Int(2)), dict(ab, u, open), true},
		{dict(ab, Int(1), Int(2)), dict(ab, Int(1), Int(2)), true},
		{dict(ab, Int(1), Int(2)), dict(ab, Int(1), Int(3)), false},
		{dict(ab, Int(1), Str("x")), dict(ab, u, u), false},
		{dict(ab, Int(1), Int(2)), dict([]string{"a", "c"}, Int(1), Int(2)), false},
		{dict(ab, Int(1), Int(2)), dict([]string{"a"}, Int(1)), false},
		{dict([]string{"a"}, Int(1)), dict(ab, Int(1), open), false},
		{dict([]string{"a"}, List(Int(1))), dict([]string{"a"}, List(u)), true},
		{null, null, true},
		{null, Int(0), false},
		{Int(0), null, false},
		{Int(1), Int(1), true},
		{Int(1), Int(2), false},
		{Int(math.MinInt64), Int(math.MaxInt64), false},
		{Int(1), Bool(true), false},
		{Bool(true), Bool(true), true},
		{Bool(true), Bool(false), false},
		{Str("a"), Str("a"), true},
		{Str("a"), Str("A"), false},
		{Str("a"), Str(""), false},
		{u, Int(1), false},
		{open, null, false},
		// Shapes that may not be: what doesn't count makes no difference.
		{dict([]string{"a"}, Int(1), Int(7)), dict([]string{"a", "z"}, u), true},
		{dict(ab, Int(1)), dict([]string{"a", "z"}, Int(1)), true},
		{dict(nil, Int(1)), dict(ab), true},
		{dict(ab, Int(1), Int(2)), dict(ab, Int(1)), false},
		{api.Value{Kind: api.VList, L: []api.Value{Int(1)}, Keys: ab}, List(u), true},
		{api.Value{Kind: api.VInt, I: 4, L: []api.Value{Int(1)}}, Int(4), true},
		{api.Value{Kind: api.VNull, L: []api.Value{Int(1)}}, null, true},
		{Int(1), Unknown(ty(9, 9)), false},
		{Unknown(ty(9, 9)), Unknown(ty(9, 9)), false},
		{Unknown(ty(9, 9)), open, true},
		{api.Value{Kind: 99}, open, true},
		{api.Value{Kind: 99}, u, false},
		{nested(1<<16-1, Int(1)), nested(1<<16-1, u), true},
		{nested(1<<16-1, Str("1")), nested(1<<16-1, u), false},
	} {
		marks := [][2]api.Value{{x.a, x.b}, {Mark(x.a), x.b}, {x.a, Mark(x.b)}, {Mark(x.a), Mark(x.b)}}
		for _, p := range marks {
			if Refines(p[0], p[1]) != x.want {
				t.Errorf("Refines(%s, %s) = %v", brief(p[0]), brief(p[1]), !x.want)
			}
		}
	}
	if !Refines(List(Mark(Int(1)), Int(2)), List(u, Mark(Int(2)))) {
		t.Error("marks of elements matter")
	}
}

// P4.3: what refines: each value itself; what refines one that refines; and what is known is refined by its like alone.
func TestRefinesLaws(t *testing.T) {
	l := pool()
	for _, a := range l {
		if !Refines(a, a) {
			t.Errorf("%v doesn't refine itself", a)
		}
		for _, b := range l {
			ab := Refines(a, b)
			if Known(b) && ab != Like(a, b) {
				t.Errorf("Refines(%v, %v) = %v", a, b, ab)
			}
			if ab && Refines(b, a) && !Like(a, b) {
				t.Errorf("%v and %v refine each other", a, b)
			}
			if !ab {
				continue
			}
			for _, c := range l {
				if Refines(b, c) && !Refines(a, c) {
					t.Errorf("%v refines %v refines %v", a, b, c)
				}
			}
		}
	}
}

// inOrder are values, each ahead of those behind it.
func inOrder() []api.Value {
	u := func(kind, of int) api.Value { return Unknown(ty(kind, of)) }
	return []api.Value{
		{Kind: math.MinInt}, {Kind: -1},
		null,
		{Kind: api.VBool, I: -1}, Bool(false), Bool(true), {Kind: api.VBool, I: 2},
		Int(math.MinInt64), Int(-5), Int(-1), Int(0), Int(3), Int(10), Int(math.MaxInt64),
		Str(""), Str("\x00"), Str("10"), Str("9"), Str("B"), Str("a"), Str("a\x00"), Str("aa"), Str("b"), Str("\x7f"), Str("\x80"), Str("\xff"),
		List(), List(null), List(null, null), List(Int(-1)), List(Int(0)), List(Int(0), null), List(Int(0), Int(1)), List(Int(0), Int(1), null), List(Int(0), Int(2)), List(Int(1)), List(Str("a")), List(List()), List(List(), null), List(List(Int(1))), List(dict(nil)), List(u(api.Any, 0)),
		dict(nil),
		dict([]string{""}, Int(9)),
		dict([]string{"a"}, Int(1)),
		dict([]string{"a", "b"}, Int(1), Int(1)),
		dict([]string{"a", "b"}, Int(1), Int(2)),
		dict([]string{"a", "b", "c"}, Int(1), Int(2), null),
		dict([]string{"a", "c"}, Int(1), Int(1)),
		dict([]string{"a"}, Int(2)),
		dict([]string{"a", "b"}, Int(2), Int(0)),
		dict([]string{"a"}, dict([]string{"x"}, Int(1))),
		dict([]string{"a"}, dict([]string{"y"}, Int(0))),
		dict([]string{"aa"}, null),
		dict([]string{"b"}, Int(0)),
		u(api.Any, 0), u(api.Bool, 0), u(api.Int, 0), u(api.Str, 0), u(api.List, 0), u(api.List, api.Bool), u(api.List, api.Int), u(api.List, api.Str), u(api.Map, 0), u(api.Map, api.Bool), u(api.Map, api.Int), u(api.Map, api.Str), u(9, 9),
		{Kind: 7}, {Kind: 99}, {Kind: math.MaxInt},
	}
}

// P4.3: Less of each pair of a row that is in order, marks aside.
func TestLess(t *testing.T) {
	l := inOrder()
	for i, a := range l {
		for j, b := range l {
			if Less(a, b) != (i < j) || Less(Mark(a), b) != (i < j) || Less(a, Mark(b)) != (i < j) {
				t.Errorf("Less(%v, %v) = %v", a, b, Less(a, b))
			}
			if Less(List(Mark(a)), List(b)) != (i < j) || Less(dict([]string{"k"}, a), dict([]string{"k"}, Mark(b))) != (i < j) {
				t.Errorf("Less of %v, %v as elements", a, b)
			}
		}
	}
}

// P4.3: of two that may be, just one is ahead, if they are unlike.
func TestLessLaws(t *testing.T) {
	l := pool()
	for _, a := range l {
		for _, b := range l {
			ahead, behind := Less(a, b), Less(b, a)
			if ahead && behind || (ahead || behind) == Like(a, b) {
				t.Errorf("Less(%v, %v) = %v, %v", a, b, ahead, behind)
			}
			if !ahead {
				continue
			}
			for _, c := range l {
				if Less(b, c) && !Less(a, c) {
					t.Fatalf("%v ahead of %v ahead of %v", a, b, c)
				}
			}
		}
	}
}

// P4.3: what doesn't count makes no difference to the order, nor do marks.
func TestLessOfOddShapes(t *testing.T) {
	for _, x := range odd() {
		if Less(x[0], x[1]) || Less(x[1], x[0]) {
			t.Errorf("%v isn't beside %v", x[0], x[1])
		}
	}
	if Less(Unknown(ty(9, 9)), Unknown(ty(-9, 9))) || Less(Unknown(ty(-9, 9)), Unknown(ty(9, 9))) {
		t.Error("two types that may not be have one code")
	}
	deep := nested(1<<16-2, Int(1))
	if Less(deep, deep) || !Less(deep, nested(1<<16-2, Int(2))) {
		t.Error("deep")
	}
}

// P4.4: Get.
func TestGet(t *testing.T) {
	m := dict([]string{"", "a", "b", "n"}, Int(1), Mark(Int(2)), List(Int(3)), null)
	for _, x := range []struct {
		v    api.Value
		key  string
		want api.Value
		e    api.Errno
	}{
		{m, "", Int(1), api.OK},
		{m, "a", Mark(Int(2)), api.OK},
		{m, "b", List(Int(3)), api.OK},
		{m, "n", null, api.OK},
		{Mark(m), "", Mark(Int(1)), api.OK},
		{Mark(m), "a", Mark(Int(2)), api.OK},
		{Mark(m), "b", Mark(List(Int(3))), api.OK},
		{Mark(m), "n", Mark(null), api.OK},
		{m, "c", null, api.ErrNone},
		{m, "A", null, api.ErrNone},
		{m, "a\x00", null, api.ErrNone},
		{m, strings.Repeat("x", 5000), null, api.ErrNone},
		{Mark(m), "c", null, api.ErrNone},
		{dict(nil), "", null, api.ErrNone},
		{null, "a", null, api.ErrType},
		{Mark(null), "a", null, api.ErrType},
		{Int(1), "a", null, api.ErrType},
		{Str("a"), "a", null, api.ErrType},
		{List(Int(1)), "0", null, api.ErrType},
		{Unknown(ty(api.Map, 0)), "a", null, api.ErrType},
		{api.Value{Kind: 99, Keys: []string{"a"}, L: []api.Value{{}}}, "a", null, api.ErrType},
		{api.Value{Kind: api.VList, Keys: []string{"a"}, L: []api.Value{{}}}, "a", null, api.ErrType},
		// Shapes that may not be.
		{dict([]string{"b", "a"}, Int(1), Int(2)), "a", Int(2), api.OK},
		{dict([]string{"b", "a"}, Int(1), Int(2)), "b", Int(1), api.OK},
		{dict([]string{"a", "b"}, Int(1)), "a", Int(1), api.OK},
		{dict([]string{"a", "b"}, Int(1)), "b", null, api.ErrNone},
		{dict([]string{"a"}, Int(1), Int(2)), "a", Int(1), api.OK},
		{dict(nil, Int(1)), "", null, api.ErrNone},
		{dict([]string{"a"}), "a", null, api.ErrNone},
	} {
		if v, e := Get(x.v, x.key); !Same(v, x.want) || e != x.e {
			t.Errorf("Get(%v, %.20q) = %v, %d; want %v, %d", x.v, x.key, v, e, x.want, x.e)
		}
	}
}

// P4.4: At.
func TestAt(t *testing.T) {
	l := List(Int(1), Mark(Int(2)), List(Int(3)))
	for _, x := range []struct {
		v    api.Value
		i    int64
		want api.Value
		e    api.Errno
	}{
		{l, 0, Int(1), api.OK},
		{l, 1, Mark(Int(2)), api.OK},
		{l, 2, List(Int(3)), api.OK},
		{Mark(l), 0, Mark(Int(1)), api.OK},
		{Mark(l), 1, Mark(Int(2)), api.OK},
		{Mark(l), 2, Mark(List(Int(3))), api.OK},
		{l, 3, null, api.ErrNone},
		{l, -1, null, api.ErrNone},
		{Mark(l), -1, null, api.ErrNone},
		{l, math.MinInt64, null, api.ErrNone},
		{l, math.MaxInt64, null, api.ErrNone},
		{l, 1 << 32, null, api.ErrNone},
		{List(), 0, null, api.ErrNone},
		{null, 0, null, api.ErrType},
		{Int(1), 0, null, api.ErrType},
		{Int(1), -1, null, api.ErrType},
		{Str("a"), 0, null, api.ErrType},
		{dict([]string{"a"}, Int(1)), 0, null, api.ErrType},
		{Unknown(ty(api.List, 0)), 0, null, api.ErrType},
		{api.Value{Kind: 99, L: []api.Value{{}}}, 0, null, api.ErrType},
		{api.Value{Kind: api.VList, L: []api.Value{Int(5)}, Keys: []string{"a", "b"}}, 0, Int(5), api.OK},
	} {
		if v, e := At(x.v, x.i); !Same(v, x.want) || e != x.e {
			t.Errorf("At(%v, %d) = %v, %d; want %v, %d", x.v, x.i, v, e, x.want, x.e)
		}
	}
}

// R1: every call ends of what is as deep as the bound allows, of every kind, and of nothing.
func TestEveryCallEnds(t *testing.T) {
	deep := nested(1<<16-1, Mark(Unknown(ty(api.Int, 0))))
	if Known(deep) || !Secret(deep) || !Same(deep, Copy(deep)) || Same(deep, Bare(deep)) || !Like(Mark(deep), Bare(deep)) {
		t.Error("deep")
	}
	for _, x := range append(odd(), [2]api.Value{deep, null}) {
		v := x[0]
		Check(v)
		TypeOf(v)
		Get(v, "a")
		At(v, 0)
		List(v, v)
		Make([]string{"a"}, []api.Value{v})
		for _, y := range odd() {
			Same(v, y[0])
			Like(v, y[0])
			Refines(v, y[0])
			Refines(y[0], v)
			Less(v, y[0])
			Less(y[0], v)
		}
	}
}
