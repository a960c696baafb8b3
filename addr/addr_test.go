package addr

import (
	"math"
	"math/rand"
	"slices"
	"strings"
	"testing"

	"surety/api"
)

const (
	small  = "abcdefghijklmnopqrstuvwxyz"
	great  = "ABCDEFGHIJKLMNOPQRSTUVWXYZ"
	digits = "0123456789"
)

func plain(t, n string) api.Addr { return api.Addr{Type: t, Name: n} }

func at(t, n string, i int64) api.Addr {
	return api.Addr{Type: t, Name: n, Kind: api.IntKey, I: i}
}

func of(t, n, k string) api.Addr {
	return api.Addr{Type: t, Name: n, Kind: api.StrKey, K: k}
}

// good are addresses that may be, in their order, each once.
func good() []api.Addr {
	long := strings.Repeat("a", 24)
	return []api.Addr{
		plain("a", "a"),
		at("a", "a", 0), at("a", "a", 1), at("a", "a", 2), at("a", "a", 10), at("a", "a", 127),
		of("a", "a", "-"), of("a", "a", "."), of("a", "a", "0"), of("a", "a", "10"), of("a", "a", "2"), of("a", "a", "A"),
		of("a", "a", "_"), of("a", "a", "a"), of("a", "a", "a.b-C"), of("a", "a", "aa"), of("a", "a", "b"), of("a", "a", "zZ9_-."),
		plain("a", "a0"), plain("a", "a_"), of("a", "a_", "k"), plain("a", "aa"), at("a", "aa", 0),
		plain("a", long), at("a", long, 127), of("a", long, strings.Repeat("Z", 24)),
		plain("a", "b"), plain("a", "z"),
		plain("a0", "a"), plain("a_", "a"), plain("aa", "a"), at("aa", "a", 3),
		plain(long, "a"), of(long, long, long),
		plain("disk", "d"), at("disk", "d", 3), of("disk", "d", "a"), plain("node", "n_1"), plain("z9", "z9"),
	}
}

// bad are addresses that may not be: each differs in one thing from one that may.
func bad() []api.Addr {
	l := []api.Addr{{}, {Type: "a"}, {Name: "a"}}
	for _, s := range notNames() {
		l = append(l, plain(s, "a"), plain("a", s), at(s, "a", 1), of("a", s, "k"))
	}
	for _, s := range notWords() {
		l = append(l, of("a", "a", s))
	}
	for _, i := range []int64{-1, 128, 129, 255, 256, 1 << 32, math.MinInt64, math.MaxInt64} {
		l = append(l, at("a", "a", i))
	}
	for _, kind := range []int{-1, 3, 4, 255, 256, 257, 258, 1 << 32, math.MinInt, math.MaxInt} {
		l = append(l, api.Addr{Type: "a", Name: "a", Kind: kind}, api.Addr{Type: "a", Name: "a", Kind: kind, I: 1}, api.Addr{Type: "a", Name: "a", Kind: kind, K: "k"})
	}
	// What isn't named isn't zero.
	return append(l,
		api.Addr{Type: "a", Name: "a", I: 1},
		api.Addr{Type: "a", Name: "a", I: -1},
		api.Addr{Type: "a", Name: "a", K: "k"},
		api.Addr{Type: "a", Name: "a", Kind: api.IntKey, I: 1, K: "k"},
		api.Addr{Type: "a", Name: "a", Kind: api.StrKey, I: 1, K: "k"},
		api.Addr{Type: "a", Name: "a", Kind: api.StrKey, I: -1, K: "k"},
	)
}

func notNames() []string {
	return []string{
		"", "A", "Disk", "0", "0a", "9", "_", "_a", "-", "-a", ".", "a.", "a.b", "a-b", "aB", "dIsk", "a b", " a", "a ", "a\n", "a\x00",
		"\xff", "a\xff", "\u00e4", "a\u00e4", "a#", "a[", "a]", "a\"", "a/", "a:", "a`", "a{", "a@", "a^",
		strings.Repeat("a", 25), strings.Repeat("a", 1<<16),
	}
}

func notWords() []string {
	return []string{
		"", " ", "a b", "a ", "\n", "\x00", "a\x00", "\xff", "\u00e4", "\"", "a\"", "a\\", "[", "]", "#", "a#2", "/", ":", "@", "`", "{", "^", ",", "+", "*", "~",
		strings.Repeat("K", 25), strings.Repeat("k", 1<<16),
	}
}

// P6.1: each byte, at the first place and behind it.
func TestNameOfEachByte(t *testing.T) {
	for c := range 256 {
		s := string([]byte{byte(c)})
		if got, want := Name(s), strings.Contains(small, s); got != want {
			t.Errorf("Name(%q) = %v", s, got)
		}
		behind := strings.Contains(small+digits+"_", s)
		word := strings.Contains(small+great+digits+"_-.", s)
		for _, tail := range []string{"", "b", "b0_"} {
			if got := Name("a" + s + tail); got != behind {
				t.Errorf("Name(%q) = %v", "a"+s+tail, got)
			}
			if got := Word("a" + s + tail); got != word {
				t.Errorf("Word(%q) = %v", "a"+s+tail, got)
			}
			if got := Word(s + tail); got != word {
				t.Errorf("Word(%q) = %v", s+tail, got)
			}
		}
	}
}

// P6.1: how many bytes a name and a key have; wrong ones written out.
func TestNamesAndKeys(t *testing.T) {
	for n := range 60 {
		may := n >= 1 && n <= 24
		if s := strings.Repeat("z", n); Name(s) != may || Word(s) != may {
			t.Errorf("%d letters: Name %v, Word %v", n, Name(s), Word(s))
		}
		if s := strings.Repeat(".", n); Word(s) != may || Name(s) {
			t.Errorf("%d full stops: Word %v", n, Word(s))
		}
	}
	for _, s := range notNames() {
		if Name(s) {
			t.Errorf("Name(%.40q)", s)
		}
	}
	for _, s := range notWords() {
		if Word(s) {
			t.Errorf("Word(%.40q)", s)
		}
	}
	if !Name("a"+strings.Repeat("_", 23)) || Name("a"+strings.Repeat("_", 24)) || !Word("0") || !Word("-") || !Word("A.b_c-9") {
		t.Error("names and keys by hand")
	}
}

// P6.1: Check and CheckKey.
func TestCheck(t *testing.T) {
	generations := []uint32{1, 2, 255, 256, 1 << 16, math.MaxUint32}
	for _, a := range good() {
		if e := Check(a); e != api.OK {
			t.Errorf("Check(%v) = %d", a, e)
		}
		for _, n := range generations {
			if e := CheckKey(api.Key{A: a, N: n}); e != api.OK {
				t.Errorf("CheckKey(%v, %d) = %d", a, n, e)
			}
		}
		if e := CheckKey(api.Key{A: a}); e != api.ErrArg {
			t.Errorf("CheckKey(%v, 0) = %d", a, e)
		}
	}
	for i := range int64(128) {
		if e := Check(at("a", "b", i)); e != api.OK {
			t.Errorf("Check of I %d: %d", i, e)
		}
	}
	for _, a := range bad() {
		if e := Check(a); e != api.ErrArg {
			t.Errorf("Check(%.60v) = %d", a, e)
		}
		for _, n := range append(generations, 0) {
			if e := CheckKey(api.Key{A: a, N: n}); e != api.ErrArg {
				t.Errorf("CheckKey(%.60v, %d) = %d", a, n, e)
			}
		}
	}
}

// inOrder are addresses of any kind, in their order: also ones that may not be.
func inOrder() []api.Addr {
	fields := func(t, n string, kind int, i int64, k string) api.Addr {
		return api.Addr{Type: t, Name: n, Kind: kind, I: i, K: k}
	}
	return []api.Addr{
		fields("", "", math.MinInt, 9, "z"),
		fields("", "", -1, 9, "z"),
		fields("", "", 0, math.MinInt64, "z"),
		fields("", "", 0, -1, "z"),
		{},
		fields("", "", 0, 0, "\x00"),
		fields("", "", 0, 1, ""),
		fields("", "", 0, math.MaxInt64, ""),
		fields("", "", 1, -5, "q"),
		fields("", "", 1, 5, ""),
		fields("", "", 2, 0, "a"),
		fields("", "", math.MaxInt, 0, ""),
		fields("", "a", 0, 0, ""),
		fields("A", "z", 2, 9, "z"),
		fields("a", "A", 2, 9, "z"),
		fields("a", "a", 0, 0, ""),
		fields("a", "a", 1, 2, ""),
		fields("a", "a", 1, 10, ""),
		fields("a", "a", 2, 0, "10"),
		fields("a", "a", 2, 0, "2"),
		fields("a", "a", 2, 0, "Z"),
		fields("a", "a", 2, 0, "a"),
		fields("a", "a", 2, 0, "a\x00"),
		fields("a", "a", 2, 0, "\x7f"),
		fields("a", "a", 2, 0, "\x80"),
		fields("a", "a", 2, 0, "\u00e4"),
		fields("a", "a", 2, 0, "\xff"),
		fields("a", "ab", 0, 0, ""),
		fields("a", "b", 0, 0, ""),
		fields("ab", "a", 0, 0, ""),
		fields("b", "a", -7, 0, ""),
		fields("\xff", "", 0, 0, ""),
	}
}

// P6.1: Less of each pair of rows that are written in their order.
func TestLess(t *testing.T) {
	for _, l := range [][]api.Addr{good(), inOrder()} {
		for i, a := range l {
			for j, b := range l {
				if got := Less(a, b); got != (i < j) {
					t.Errorf("Less(%v, %v) = %v", a, b, got)
				}
			}
		}
	}
}

// objects are those of inOrder with some generations, in their order.
func objects() []api.Key {
	var l []api.Key
	for _, a := range inOrder() {
		for _, n := range []uint32{0, 1, 2, 10, 255, 256, 1 << 31, math.MaxUint32} {
			l = append(l, api.Key{A: a, N: n})
		}
	}
	return l
}

// P6.1: LessKey: by A, then by N as a number.
func TestLessKey(t *testing.T) {
	l := objects()
	for i, a := range l {
		for j, b := range l {
			if got := LessKey(a, b); got != (i < j) {
				t.Fatalf("LessKey(%v, %v) = %v", a, b, got)
			}
		}
	}
}

// P6.1: Base of any address.
func TestBase(t *testing.T) {
	for _, a := range slices.Concat(good(), bad(), inOrder()) {
		if got := Base(a); got != plain(a.Type, a.Name) {
			t.Errorf("Base(%.60v) = %.60v", a, got)
		}
	}
}

// P6.1: Sort of objects in any order, some of them several times; of nothing.
func TestSort(t *testing.T) {
	want := objects()
	r := rand.New(rand.NewSource(6))
	for round := range 20 {
		l := slices.Clone(want)
		for range 50 * round {
			l = append(l, want[r.Intn(len(want))])
		}
		r.Shuffle(len(l), func(i, j int) { l[i], l[j] = l[j], l[i] })
		if got := Sort(l); !slices.Equal(got, want) {
			t.Fatalf("Sort of %d objects: %v", len(l), got)
		}
	}
	if got := Sort(slices.Repeat(want[:1], 100)); !slices.Equal(got, want[:1]) {
		t.Errorf("Sort of one object a hundred times: %v", got)
	}
	if len(Sort(nil)) != 0 || len(Sort([]api.Key{})) != 0 {
		t.Error("Sort of nothing")
	}
}

// P6.1, R4: what Sort is handed stays as it was, with the room behind it, and its answer is new memory.
func TestSortLeavesItsListAlone(t *testing.T) {
	k := func(n uint32) api.Key { return api.Key{A: plain("a", "a"), N: n} }
	for _, l := range [][]api.Key{{k(3), k(1), k(2), k(1), k(9), k(8)}, {k(1), k(2), k(3), k(4), k(9), k(8)}} {
		was := slices.Clone(l)
		got := Sort(l[:4])
		want := slices.Clone(got)
		again := Sort(l[:4])
		if !slices.Equal(l, was) {
			t.Errorf("Sort changed its list: %v", l)
		}
		for i := range got {
			got[i] = k(77)
		}
		if !slices.Equal(l, was) || !slices.Equal(again, want) || !slices.Equal(Sort(l[:4]), want) {
			t.Errorf("Sort's answer shares memory")
		}
	}
}

// Objects are keys of a map: two of the same fields are one key.
func TestObjectIsKey(t *testing.T) {
	seen := map[api.Key]int{}
	for _, k := range slices.Concat(objects(), objects()) {
		seen[k]++
	}
	for k, n := range seen {
		if n != 2 {
			t.Errorf("%v: %d times", k, n)
		}
	}
	if len(seen) != len(objects()) {
		t.Error(len(seen))
	}
}
