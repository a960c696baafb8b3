package addr

import (
	"math"
	"regexp"
	"slices"
	"strconv"
	"strings"
	"testing"

	"surety/api"
)

type textRow struct {
	a    api.Addr
	text string
}

// textRows are addresses that may be, with their texts written out.
func textRows() []textRow {
	long := strings.Repeat("z", 24)
	return []textRow{
		{plain("disk", "d"), `disk.d`},
		{at("disk", "d", 0), `disk.d[0]`},
		{at("disk", "d", 3), `disk.d[3]`},
		{at("disk", "d", 9), `disk.d[9]`},
		{at("disk", "d", 10), `disk.d[10]`},
		{at("disk", "d", 127), `disk.d[127]`},
		{of("disk", "d", "a"), `disk.d["a"]`},
		{of("disk", "d", "0"), `disk.d["0"]`},
		{of("disk", "d", "-1"), `disk.d["-1"]`},
		{of("disk", "d", "."), `disk.d["."]`},
		{of("disk", "d", "a.b-C_9"), `disk.d["a.b-C_9"]`},
		{plain("a", "b"), `a.b`},
		{plain("n_1", "x_"), `n_1.x_`},
		{plain(long, long), long + "." + long},
		{of(long, long, long), long + "." + long + `["` + long + `"]`},
	}
}

// P6.2: Print and Parse, both ways; Parse's answer may be.
func TestTexts(t *testing.T) {
	for _, r := range textRows() {
		if s := Print(r.a); s != r.text {
			t.Errorf("Print(%v) = %s; want %s", r.a, s, r.text)
		}
		if a, e := Parse(r.text); a != r.a || e != api.OK {
			t.Errorf("Parse(%s) = %v, %d", r.text, a, e)
		}
	}
	for _, a := range good() {
		if b, e := Parse(Print(a)); b != a || e != api.OK {
			t.Errorf("Parse of Print(%v) = %v, %d", a, b, e)
		}
	}
	for i := range int64(128) {
		a := at("a", "b", i)
		if b, e := Parse(Print(a)); b != a || e != api.OK {
			t.Errorf("Parse of Print(%v) = %v, %d", a, b, e)
		}
	}
}

// P6.2: Print of addresses that may not be: what their fields are.
func TestPrintOfAny(t *testing.T) {
	for _, r := range []textRow{
		{api.Addr{}, "."},
		{plain("", "b"), ".b"},
		{plain("a", ""), "a."},
		{plain("A.b", "c[0]"), "A.b.c[0]"},
		{plain("\xff\n", "\x00"), "\xff\n.\x00"},
		{at("", "", 0), ".[0]"},
		{at("a", "b", -1), "a.b[-1]"},
		{at("a", "b", 128), "a.b[128]"},
		{at("a", "b", math.MinInt64), "a.b[-9223372036854775808]"},
		{at("a", "b", math.MaxInt64), "a.b[9223372036854775807]"},
		{of("a", "b", ""), `a.b[""]`},
		{of("a", "b", "\"]\\\n\xff"), "a.b[\"\"]\\\n\xff\"]"},
		{api.Addr{Type: "a", Name: "b", I: 5, K: "k"}, "a.b"},
		{api.Addr{Type: "a", Name: "b", Kind: api.IntKey, I: 5, K: "k"}, "a.b[5]"},
		{api.Addr{Type: "a", Name: "b", Kind: api.StrKey, I: 5, K: "k"}, `a.b["k"]`},
		{api.Addr{Type: "a", Name: "b", Kind: 3, I: 5, K: "k"}, "a.b"},
		{api.Addr{Type: "a", Name: "b", Kind: -1, I: 5, K: "k"}, "a.b"},
		{api.Addr{Type: "a", Name: "b", Kind: 257, I: 5, K: "k"}, "a.b"},
		{plain(strings.Repeat("x", 3000), "b"), strings.Repeat("x", 3000) + ".b"},
	} {
		if s := Print(r.a); s != r.text {
			t.Errorf("Print(%.60v) = %q; want %q", r.a, s, r.text)
		}
	}
}

// P6.2: PrintKey of any object.
func TestPrintKey(t *testing.T) {
	for _, r := range []struct {
		k    api.Key
		text string
	}{
		{api.Key{A: of("disk", "d", "a"), N: 2}, `disk.d["a"]#2`},
		{api.Key{A: plain("disk", "d"), N: 1}, `disk.d#1`},
		{api.Key{A: at("disk", "d", 3), N: 10}, `disk.d[3]#10`},
		{api.Key{A: plain("a", "b"), N: math.MaxUint32}, `a.b#4294967295`},
		{api.Key{A: plain("a", "b"), N: 1 << 31}, `a.b#2147483648`},
		{api.Key{A: plain("a", "b")}, `a.b#0`},
		{api.Key{}, `.#0`},
		{api.Key{A: at("A", "", -1), N: 3}, `A.[-1]#3`},
	} {
		if s := PrintKey(r.k); s != r.text {
			t.Errorf("PrintKey(%v) = %s; want %s", r.k, s, r.text)
		}
	}
}

func refused(t *testing.T, s string) {
	t.Helper()
	if a, e := Parse(s); a != (api.Addr{}) || e != api.ErrForm {
		t.Errorf("Parse(%.60q) = %v, %d", s, a, e)
	}
}

// P6.2: texts that no address has, written out.
func TestWrongTexts(t *testing.T) {
	for _, s := range []string{
		"", ".", "..", "disk", "disk.", ".d", "disk..d", "disk.d.", ".disk.d", "disk.d.e", "disk d", "disk/d", "Disk.d", "disk.D", "0.d", "d.0", "_.d", "d._", "disk.d-", "d-k.d",
		" disk.d", "disk.d ", "disk.d\n", "disk. d", "disk.d\x00", "\xff.d", "d.\u00e4",
		"disk[0]", "disk[0].d", "[0]", ".[0]", "disk.[0]", "disk.[\"a\"]",
		"disk.d[", "disk.d]", "disk.d[]", "disk.d[[0]]", "disk.d[0", "disk.d0]", "disk.d[0]]", "disk.d[[0]", "disk.d[0][1]", "disk.d[0]x", "disk.d[0] ", "disk.d [0]", "disk.d[ 0]", "disk.d[0 ]", "disk.d[0].e", "disk.d[0]#1",
		"disk.d[00]", "disk.d[01]", "disk.d[-0]", "disk.d[-1]", "disk.d[+1]", "disk.d[1.0]", "disk.d[1_0]", "disk.d[0x1]", "disk.d[1e1]", "disk.d[a]", "disk.d[a\"]", "disk.d[\u0661]",
		"disk.d[128]", "disk.d[129]", "disk.d[256]", "disk.d[1000]", "disk.d[4294967296]", "disk.d[4294967299]", "disk.d[9223372036854775807]", "disk.d[9223372036854775808]", "disk.d[18446744073709551616]", "disk.d[18446744073709551619]", "disk.d[-9223372036854775808]",
		`disk.d["]`, `disk.d["`, `disk.d[""]`, `disk.d["a]`, `disk.d[a"]`, `disk.d["a"`, `disk.d"a"`, `disk.d["a"]]`, `disk.d[["a"]]`, `disk.d["a""]`, `disk.d[""a"]`, `disk.d["a"b"]`, `disk.d["a]"]`, `disk.d["a["]`, `disk.d["a b"]`, `disk.d["a"x]`, `disk.d[x"a"]`, `disk.d['a']`, `disk.d["a\"]`, `disk.d["\u0061"]`, `disk.d["a"]["b"]`, `disk.d["a"][0]`, `disk.d[0]["a"]`, `disk.d["a"]#2`, `disk.d["a"].e`,
		"disk.d[\"\xff\"]", "disk.d[\"\u00e4\"]",
		strings.Repeat("a", 25) + ".d", "disk." + strings.Repeat("a", 25), `disk.d["` + strings.Repeat("a", 25) + `"]`,
		strings.Repeat("a", 1<<16), strings.Repeat(".", 1<<16), "a.b" + strings.Repeat("[", 1<<16), "a.b[" + strings.Repeat("1", 1<<16) + "]", `a.b["` + strings.Repeat(`"`, 1<<16) + "]",
	} {
		refused(t, s)
	}
	for _, a := range bad() {
		// Those with a field too much have the text of one that may be.
		if _, e := Parse(Print(Base(a))); e == api.OK && (a.Kind < api.IntKey || a.Kind > api.StrKey || a.I != 0 && a.K != "") {
			continue
		}
		refused(t, Print(a))
	}
}

// rule is that of the texts of addresses that may be, written as one expression.
var rule = regexp.MustCompile(`\A([a-z][a-z0-9_]{0,23})\.([a-z][a-z0-9_]{0,23})(?:\[(0|[1-9][0-9]?|1[01][0-9]|12[0-7])\]|\["([A-Za-z0-9_.\-]{1,24})"\])?\z`)

func byRule(s string) (api.Addr, api.Errno) {
	m := rule.FindStringSubmatch(s)
	switch {
	case m == nil:
		return api.Addr{}, api.ErrForm
	case m[3] != "":
		i, _ := strconv.ParseInt(m[3], 10, 64)
		return at(m[1], m[2], i), api.OK
	case m[4] != "":
		return of(m[1], m[2], m[4]), api.OK
	}
	return plain(m[1], m[2]), api.OK
}

// nearby are s with a byte taken out, put in or changed, at each place.
func nearby(s string) []string {
	bytes := append([]byte(`aZ09_-.[]"# \`), 0, 0x80, 0xff)
	var l []string
	for i := range len(s) + 1 {
		for _, c := range bytes {
			l = append(l, s[:i]+string([]byte{c})+s[i:])
			if i < len(s) {
				l = append(l, s[:i]+string([]byte{c})+s[i+1:])
			}
		}
		if i < len(s) {
			l = append(l, s[:i]+s[i+1:], s[:i])
		}
	}
	return l
}

// P6.2: texts near those of addresses, held against a rule; what is parsed is printed as it stood.
func TestParseByRule(t *testing.T) {
	var l []string
	for _, s := range []string{"a.b", "disk.d[3]", "a.b[12]", "a.b[127]", `a.b["k"]`, `a.b["a.b"]`, `disk.d_1["x-Y"]`} {
		l = append(l, nearby(s)...)
	}
	for _, s := range slices.Clone(l) {
		if len(s) < 9 {
			l = append(l, nearby(s)...)
		}
	}
	slices.Sort(l)
	found := 0
	for _, s := range slices.Compact(l) {
		want, we := byRule(s)
		a, e := Parse(s)
		if a != want || e != we {
			t.Fatalf("Parse(%q) = %v, %d; want %v, %d", s, a, e, want, we)
		}
		if e == api.OK {
			found++
			if Check(a) != api.OK || Print(a) != s {
				t.Fatalf("Parse(%q) = %v, whose text is %q", s, a, Print(a))
			}
		}
	}
	if found < 1000 {
		t.Errorf("only %d of the texts are those of addresses", found)
	}
}
