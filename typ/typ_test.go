package typ

import (
	"math"
	"slices"
	"strings"
	"testing"

	"surety/api"
)

// row is a type that may be, with its code and its text written out.
type row struct {
	t    api.Type
	code byte
	text string
}

func rows() []row {
	return []row{
		{api.Type{Kind: api.Any}, 0, "any"},
		{api.Type{Kind: api.Bool}, 8, "bool"},
		{api.Type{Kind: api.Int}, 16, "int"},
		{api.Type{Kind: api.Str}, 24, "str"},
		{api.Type{Kind: api.List}, 32, "list"},
		{api.Type{Kind: api.List, Of: api.Bool}, 33, "list(bool)"},
		{api.Type{Kind: api.List, Of: api.Int}, 34, "list(int)"},
		{api.Type{Kind: api.List, Of: api.Str}, 35, "list(str)"},
		{api.Type{Kind: api.Map}, 40, "map"},
		{api.Type{Kind: api.Map, Of: api.Bool}, 41, "map(bool)"},
		{api.Type{Kind: api.Map, Of: api.Int}, 42, "map(int)"},
		{api.Type{Kind: api.Map, Of: api.Str}, 43, "map(str)"},
	}
}

func good() []api.Type {
	var l []api.Type
	for _, r := range rows() {
		l = append(l, r.t)
	}
	return l
}

// wrong are types that may not be: all near those that may be, some that a byte would wrap to one that may be, and the ends.
func wrong() []api.Type {
	numbers := []int{
		math.MinInt, math.MinInt + 4, -256, -255, -252, -8, -5, -4, -3, -2, -1, 0, 1, 2, 3, 4, 5, 6, 7, 8, 9, 16, 31, 32, 43,
		255, 256, 257, 260, 261, 1 << 32, 1<<32 + 4, math.MaxInt - 1, math.MaxInt,
	}
	ok := good()
	var l []api.Type
	for _, kind := range numbers {
		for _, of := range numbers {
			if t := (api.Type{Kind: kind, Of: of}); !slices.Contains(ok, t) {
				l = append(l, t)
			}
		}
	}
	return l
}

// P3.1: Check of those that may be, and of all near them.
func TestCheck(t *testing.T) {
	for _, x := range good() {
		if e := Check(x); e != api.OK {
			t.Errorf("Check(%v) = %d", x, e)
		}
	}
	for _, x := range []api.Type{
		{Kind: api.Any, Of: api.Bool}, {Kind: api.Bool, Of: api.Bool}, {Kind: api.Int, Of: api.Int}, {Kind: api.Str, Of: api.Int},
		{Kind: api.List, Of: api.List}, {Kind: api.List, Of: api.Map}, {Kind: api.Map, Of: api.Map}, {Kind: api.Map, Of: -1},
		{Kind: 6}, {Kind: -1},
	} {
		if e := Check(x); e != api.ErrArg {
			t.Errorf("Check(%v) = %d", x, e)
		}
	}
	for _, x := range wrong() {
		if e := Check(x); e != api.ErrArg {
			t.Errorf("Check(%v) = %d", x, e)
		}
	}
}

// P3.1: All has those that may be, by rising Codes, in memory of its own.
func TestAll(t *testing.T) {
	l := All()
	if !slices.Equal(l, good()) {
		t.Fatal(l)
	}
	for i := range l {
		l[i] = api.Type{Kind: 99}
	}
	if !slices.Equal(All(), good()) {
		t.Fatal("it hangs on an answer")
	}
}

// P3.1: Code, and Of of each byte.
func TestCodes(t *testing.T) {
	byCode := map[byte]api.Type{}
	for _, r := range rows() {
		byCode[r.code] = r.t
		if c := Code(r.t); c != r.code {
			t.Errorf("Code(%v) = %d; want %d", r.t, c, r.code)
		}
	}
	for i := range 256 {
		want, ok := byCode[byte(i)]
		we := api.ErrForm
		if ok {
			we = api.OK
		}
		if x, e := Of(byte(i)); x != want || e != we {
			t.Errorf("Of(%d) = %v, %d; want %v, %d", i, x, e, want, we)
		}
	}
	for _, x := range wrong() {
		if c := Code(x); c != 255 {
			t.Errorf("Code(%v) = %d", x, c)
		}
	}
}

// P3.2: which is within which, for each pair, written out by their texts.
func TestWithin(t *testing.T) {
	narrower := map[string][]string{
		"list": {"list(bool)", "list(int)", "list(str)"},
		"map":  {"map(bool)", "map(int)", "map(str)"},
	}
	for _, a := range rows() {
		for _, b := range rows() {
			want := b.text == "any" || a.text == b.text || slices.Contains(narrower[b.text], a.text)
			if Within(a.t, b.t) != want {
				t.Errorf("is %s within %s: %v", a.text, b.text, !want)
			}
		}
	}
}

// ends are those of the types that both have that stand so to all others that both have.
func ends(both func(x api.Type) bool, stands func(x, y api.Type) bool) (l []api.Type) {
	for _, x := range good() {
		end := both(x)
		for _, y := range good() {
			end = end && (!both(y) || stands(x, y))
		}
		if end {
			l = append(l, x)
		}
	}
	return l
}

// leastOver is what Join is to be, by its words: the one of those within which both are that is within all others.
func leastOver(a, b api.Type) []api.Type {
	return ends(func(x api.Type) bool { return Within(a, x) && Within(b, x) }, Within)
}

// greatestUnder is what Meet is to be, by its words: the one of those within both that all others are within; or none.
func greatestUnder(a, b api.Type) []api.Type {
	return ends(func(x api.Type) bool { return Within(x, a) && Within(x, b) }, func(x, y api.Type) bool { return Within(y, x) })
}

// P3.2: Join and Meet of each pair, held against their words.
func TestJoinAndMeetByTheirWords(t *testing.T) {
	for _, a := range rows() {
		for _, b := range rows() {
			if l := leastOver(a.t, b.t); len(l) != 1 || Join(a.t, b.t) != l[0] {
				t.Errorf("Join(%s, %s) = %v; want %v", a.text, b.text, Join(a.t, b.t), l)
			}
			want, has := api.Type{}, false
			if l := greatestUnder(a.t, b.t); len(l) == 1 {
				want, has = l[0], true
			}
			if x, ok := Meet(a.t, b.t); x != want || ok != has {
				t.Errorf("Meet(%s, %s) = %v, %v; want %v, %v", a.text, b.text, x, ok, want, has)
			}
		}
	}
}

// P3.2: pairs written out, both ways; no meet is the empty text.
func TestJoinAndMeetByHand(t *testing.T) {
	types := map[string]api.Type{}
	for _, r := range rows() {
		types[r.text] = r.t
	}
	for _, x := range []struct{ a, b, join, meet string }{
		{"any", "any", "any", "any"},
		{"any", "int", "any", "int"},
		{"any", "list", "any", "list"},
		{"any", "map(str)", "any", "map(str)"},
		{"int", "int", "int", "int"},
		{"int", "str", "any", ""},
		{"bool", "int", "any", ""},
		{"int", "list", "any", ""},
		{"int", "list(int)", "any", ""},
		{"list", "list", "list", "list"},
		{"list(int)", "list", "list", "list(int)"},
		{"list(int)", "list(int)", "list(int)", "list(int)"},
		{"list(int)", "list(str)", "list", ""},
		{"map(bool)", "map", "map", "map(bool)"},
		{"map(bool)", "map(str)", "map", ""},
		{"list", "map", "any", ""},
		{"list(int)", "map(int)", "any", ""},
		{"list(int)", "map", "any", ""},
	} {
		meet, has := types[x.meet]
		for _, p := range [][2]api.Type{{types[x.a], types[x.b]}, {types[x.b], types[x.a]}} {
			if j := Join(p[0], p[1]); j != types[x.join] {
				t.Errorf("Join(%v, %v) = %v; want %s", p[0], p[1], j, x.join)
			}
			if m, ok := Meet(p[0], p[1]); m != meet || ok != has {
				t.Errorf("Meet(%v, %v) = %v, %v; want %q", p[0], p[1], m, ok, x.meet)
			}
		}
	}
}

// P3.2: what may not be is within nothing, not even within itself; its Join is Any, its Meet none.
func TestPairsThatMayNotBe(t *testing.T) {
	for _, x := range wrong() {
		for _, y := range append(good(), x, api.Type{Kind: 7}, api.Type{Kind: x.Kind}, api.Type{Kind: x.Kind, Of: -1}) {
			if Within(x, y) || Within(y, x) {
				t.Errorf("within: %v, %v", x, y)
			}
			if Join(x, y) != (api.Type{}) || Join(y, x) != (api.Type{}) {
				t.Errorf("Join of %v, %v", x, y)
			}
			if m, ok := Meet(x, y); m != (api.Type{}) || ok {
				t.Errorf("Meet(%v, %v) = %v, %v", x, y, m, ok)
			}
			if m, ok := Meet(y, x); m != (api.Type{}) || ok {
				t.Errorf("Meet(%v, %v) = %v, %v", y, x, m, ok)
			}
		}
	}
}

// P3.3: texts, both ways.
func TestTexts(t *testing.T) {
	for _, r := range rows() {
		if s := Text(r.t); s != r.text {
			t.Errorf("Text(%v) = %s; want %s", r.t, s, r.text)
		}
		if x, e := Parse(r.text); x != r.t || e != api.OK {
			t.Errorf("Parse(%s) = %v, %d", r.text, x, e)
		}
	}
	for _, x := range wrong() {
		if s := Text(x); s != "?" {
			t.Errorf("Text(%v) = %s", x, s)
		}
	}
}

// P3.3: texts that no type has.
func TestWrongTexts(t *testing.T) {
	l := []string{
		"", "?", "a", "anything", "an", "Any", "INT", "number", "string", "null", "unknown",
		"list(", "list)", "list()", "list(any)", "list(list)", "list(map)", "list(int", "list int", "listint", "list(int))", "list((int))",
		"list(?)", "list(int,int)", "list(list(int))", "map(", "map()", "map(any)", "map(map)", "map(list)", "map(Int)", "map[int]",
		"any(int)", "bool(bool)", "int(int)", "int()", "str(str)", "(int)", "(any)", "list(int)(int)",
		"\x00", "int\x00", "\xff", "li\u017ft", strings.Repeat("list(", 1000), strings.Repeat("x", 100000),
	}
	for _, r := range rows() {
		l = append(l, " "+r.text, r.text+" ", r.text+"\n", strings.ToUpper(r.text), r.text[1:], r.text[:len(r.text)-1], r.text+r.text)
	}
	for _, s := range l {
		if x, e := Parse(s); x != (api.Type{}) || e != api.ErrForm {
			t.Errorf("Parse(%q) = %v, %d", s, x, e)
		}
	}
}

// Types are keys of a map: two of the same fields are one key.
func TestTypeIsKey(t *testing.T) {
	seen := map[api.Type]int{}
	for _, x := range append(All(), All()...) {
		seen[x]++
	}
	for _, x := range good() {
		if seen[x] != 2 {
			t.Errorf("%v: %d times", x, seen[x])
		}
	}
	if len(seen) != 12 {
		t.Fatal(len(seen))
	}
}
