package num

import (
	"bytes"
	"math"
	"math/big"
	"strings"
	"testing"

	"surety/api"
)

const (
	least    = math.MinInt64
	greatest = math.MaxInt64
)

// edges are the numbers at which something turns: around 0, around each power of 2, and at both ends.
func edges() []int64 {
	l := []int64{least, least + 1, least + 2, greatest, greatest - 1, greatest - 2}
	for i := range 63 {
		p := int64(1) << i
		l = append(l, p-1, p, p+1, -p-1, -p, -p+1)
	}
	return append(l, 0, 3037000499, 3037000500, -3037000499, -3037000500, 1234567890123, -98765432109)
}

// held is what a whole number without bounds is worth here.
func held(x *big.Int) (int64, api.Errno) {
	if !x.IsInt64() {
		return 0, api.ErrOver
	}
	return x.Int64(), api.OK
}

type binary struct {
	name string
	f    func(a, b int64) (int64, api.Errno)
	full func(z, a, b *big.Int) *big.Int
}

func binaries() []binary {
	return []binary{
		{"Add", Add, (*big.Int).Add},
		{"Sub", Sub, (*big.Int).Sub},
		{"Mul", Mul, (*big.Int).Mul},
		{"Div", Div, (*big.Int).Quo},
		{"Mod", Mod, (*big.Int).Rem},
	}
}

// P1.1: at all edges, held against numbers without bounds.
func TestArithmeticAtEdges(t *testing.T) {
	for _, op := range binaries() {
		divides := op.name == "Div" || op.name == "Mod"
		for _, a := range edges() {
			for _, b := range edges() {
				want, we := int64(0), api.ErrZero
				if b != 0 || !divides {
					want, we = held(op.full(new(big.Int), big.NewInt(a), big.NewInt(b)))
				}
				if n, e := op.f(a, b); n != want || e != we {
					t.Fatalf("%s(%d, %d) = %d, %d; want %d, %d", op.name, a, b, n, e, want, we)
				}
			}
		}
	}
}

// P1.1: numbers written out, so that the oracle isn't believed alone.
func TestArithmeticByHand(t *testing.T) {
	for _, x := range []struct {
		name string
		f    func(a, b int64) (int64, api.Errno)
		a, b int64
		want int64
		e    api.Errno
	}{
		{"Add", Add, 2, 3, 5, api.OK},
		{"Add", Add, greatest, 1, 0, api.ErrOver},
		{"Add", Add, least, -1, 0, api.ErrOver},
		{"Add", Add, least, greatest, -1, api.OK},
		{"Sub", Sub, 2, 3, -1, api.OK},
		{"Sub", Sub, 0, least, 0, api.ErrOver},
		{"Sub", Sub, -1, least, greatest, api.OK},
		{"Mul", Mul, -6, 7, -42, api.OK},
		{"Mul", Mul, -1, 0, 0, api.OK},
		{"Mul", Mul, least, -1, 0, api.ErrOver},
		{"Mul", Mul, -1, least, 0, api.ErrOver},
		{"Mul", Mul, least, 1, least, api.OK},
		{"Mul", Mul, 1 << 32, 1 << 31, 0, api.ErrOver},
		{"Mul", Mul, 1 << 32, -1 << 31, least, api.OK},
		{"Mul", Mul, 1 << 32, 1 << 32, 0, api.ErrOver},
		{"Mul", Mul, least, least, 0, api.ErrOver},
		{"Div", Div, -7, 2, -3, api.OK},
		{"Div", Div, 7, -2, -3, api.OK},
		{"Div", Div, 7, 2, 3, api.OK},
		{"Div", Div, 0, 0, 0, api.ErrZero},
		{"Div", Div, least, 0, 0, api.ErrZero},
		{"Div", Div, least, -1, 0, api.ErrOver},
		{"Mod", Mod, -7, 2, -1, api.OK},
		{"Mod", Mod, 7, -2, 1, api.OK},
		{"Mod", Mod, 7, 0, 0, api.ErrZero},
		{"Mod", Mod, least, -1, 0, api.OK},
	} {
		if n, e := x.f(x.a, x.b); n != x.want || e != x.e {
			t.Errorf("%s(%d, %d) = %d, %d; want %d, %d", x.name, x.a, x.b, n, e, x.want, x.e)
		}
	}
}

// P1.1: Neg.
func TestNeg(t *testing.T) {
	for _, a := range edges() {
		want, we := held(new(big.Int).Neg(big.NewInt(a)))
		if n, e := Neg(a); n != want || e != we {
			t.Fatalf("Neg(%d) = %d, %d; want %d, %d", a, n, e, want, we)
		}
	}
	if n, e := Neg(least); n != 0 || e != api.ErrOver {
		t.Fatal(n, e)
	}
}

func ones(n int, last ...byte) []byte { return append(bytes.Repeat([]byte{0xff}, n), last...) }

func naughts(n int, last ...byte) []byte { return append(bytes.Repeat([]byte{0x80}, n), last...) }

// P1.2: the short form, written out, and read again, whatever stands behind it.
func TestShortForms(t *testing.T) {
	for _, x := range []struct {
		n    uint64
		form []byte
	}{
		{0, []byte{0}},
		{1, []byte{1}},
		{127, []byte{0x7f}},
		{128, []byte{0x80, 1}},
		{300, []byte{0xac, 2}},
		{1<<14 - 1, []byte{0xff, 0x7f}},
		{1 << 14, []byte{0x80, 0x80, 1}},
		{1<<63 - 1, ones(8, 0x7f)},
		{1 << 63, naughts(9, 1)},
		{math.MaxUint64, ones(9, 1)},
	} {
		if b := PutShort(nil, x.n); !bytes.Equal(b, x.form) {
			t.Errorf("PutShort(%d) = %x; want %x", x.n, b, x.form)
		}
		if b := PutShort([]byte{7, 8}, x.n); !bytes.Equal(b, append([]byte{7, 8}, x.form...)) {
			t.Errorf("PutShort behind bytes, of %d: %x", x.n, b)
		}
		for _, tail := range [][]byte{nil, {0}, {0x80, 0xff}} {
			n, used, e := GetShort(append(bytes.Clone(x.form), tail...))
			if n != x.n || used != len(x.form) || e != api.OK {
				t.Errorf("GetShort(%x, and %x) = %d, %d, %d", x.form, tail, n, used, e)
			}
		}
		for i := range x.form {
			if n, used, e := GetShort(x.form[:i]); n != 0 || used != 0 || e != api.ErrShort {
				t.Errorf("GetShort(%x) = %d, %d, %d; want ErrShort", x.form[:i], n, used, e)
			}
		}
	}
}

// P1.2: what is no short form.
func TestWrongShortForms(t *testing.T) {
	for _, x := range []struct {
		b    []byte
		want api.Errno
	}{
		{nil, api.ErrShort},
		{[]byte{0x80}, api.ErrShort},
		{naughts(9), api.ErrShort},
		{ones(9), api.ErrShort},
		{[]byte{0x80, 0}, api.ErrForm},
		{[]byte{0xff, 0, 1}, api.ErrForm},
		{[]byte{0x81, 0x80, 0}, api.ErrForm},
		{ones(9, 0), api.ErrForm},
		{ones(9, 2), api.ErrForm},
		{ones(9, 0x7f), api.ErrForm},
		{ones(9, 0x80), api.ErrForm},
		{naughts(9, 0x81), api.ErrForm},
		{naughts(9, 0x81, 0), api.ErrForm},
		{naughts(40), api.ErrForm},
		{ones(40), api.ErrForm},
	} {
		if n, used, e := GetShort(x.b); n != 0 || used != 0 || e != x.want {
			t.Errorf("GetShort(%x) = %d, %d, %d; want %d", x.b, n, used, e, x.want)
		}
	}
}

// P1.2: the forms of all widths.
func TestForms(t *testing.T) {
	const n = 0x0102030405060708
	whole := []byte{1, 2, 3, 4, 5, 6, 7, 8}
	for width := 1; width <= 8; width++ {
		form := whole[8-width:]
		if b := Put(nil, n, width); !bytes.Equal(b, form) {
			t.Errorf("Put of width %d: %x; want %x", width, b, form)
		}
		if b := Put([]byte{9, 9}, n, width); !bytes.Equal(b, append([]byte{9, 9}, form...)) {
			t.Errorf("Put behind bytes, of width %d: %x", width, b)
		}
		want := uint64(n)
		if width < 8 {
			want %= 1 << (8 * width)
		}
		for _, tail := range [][]byte{nil, {0xff}} {
			if got, e := Get(append(bytes.Clone(form), tail...), width); got != want || e != api.OK {
				t.Errorf("Get of width %d: %x, %d; want %x", width, got, e, want)
			}
		}
		for i := range width {
			if got, e := Get(form[:i], width); got != 0 || e != api.ErrShort {
				t.Errorf("Get of width %d, of %d bytes: %x, %d", width, i, got, e)
			}
		}
		if got, e := Get(ones(8), width); got != math.MaxUint64>>(64-8*width) || e != api.OK {
			t.Errorf("Get of width %d, of ones: %x, %d", width, got, e)
		}
	}
}

// P1.2: what is no width: told ahead of bytes that are too few.
func TestWrongWidths(t *testing.T) {
	for _, width := range []int{0, -1, 9, 64, math.MinInt, math.MaxInt} {
		if b := Put([]byte{1, 2}, 3, width); !bytes.Equal(b, []byte{1, 2}) {
			t.Errorf("Put of width %d: %x", width, b)
		}
		if b := Put(nil, 3, width); len(b) != 0 {
			t.Errorf("Put of width %d behind nothing: %x", width, b)
		}
		for _, b := range [][]byte{nil, {1}, ones(16)} {
			if n, e := Get(b, width); n != 0 || e != api.ErrArg {
				t.Errorf("Get(%x, %d) = %d, %d", b, width, n, e)
			}
		}
	}
}

// P1.2, R4: what is laid is new memory, and the room behind what is handed in stays as it was.
func TestNewMemory(t *testing.T) {
	for _, put := range []func(b []byte) []byte{
		func(b []byte) []byte { return PutShort(b, 5) },
		func(b []byte) []byte { return PutShort(b, math.MaxUint64) },
		func(b []byte) []byte { return Put(b, 5, 1) },
		func(b []byte) []byte { return Put(b, math.MaxUint64, 8) },
		func(b []byte) []byte { return Put(b, 5, 0) },
		func(b []byte) []byte { return Put(b, 5, 9) },
	} {
		room := bytes.Repeat([]byte{0x33}, 32)
		before := bytes.Clone(room)
		out := put(room[:4])
		if !bytes.Equal(out[:4], before[:4]) {
			t.Errorf("what stood ahead is %x", out[:4])
		}
		for i := range out {
			out[i] = 0xee
		}
		clear(out[len(out):cap(out)])
		if !bytes.Equal(room, before) {
			t.Errorf("what was handed in is %x", room)
		}
	}
}

// P1.3: the zigzag, both ways.
func TestZigzag(t *testing.T) {
	for _, x := range []struct {
		n int64
		z uint64
	}{
		{0, 0}, {-1, 1}, {1, 2}, {-2, 3}, {2, 4}, {-3, 5},
		{1 << 40, 1 << 41}, {-1 << 40, 1<<41 - 1},
		{greatest, math.MaxUint64 - 1}, {least, math.MaxUint64},
	} {
		if z := Zig(x.n); z != x.z {
			t.Errorf("Zig(%d) = %d; want %d", x.n, z, x.z)
		}
		if n := Zag(x.z); n != x.n {
			t.Errorf("Zag(%d) = %d; want %d", x.z, n, x.n)
		}
	}
	for _, n := range edges() {
		if Zag(Zig(n)) != n {
			t.Errorf("Zag(Zig(%d)) = %d", n, Zag(Zig(n)))
		}
	}
}

// P1.3: texts, both ways.
func TestTexts(t *testing.T) {
	for n, s := range map[int64]string{
		0: "0", 7: "7", -7: "-7", 10: "10", -100: "-100",
		greatest: "9223372036854775807", least: "-9223372036854775808",
	} {
		if Print(n) != s {
			t.Errorf("Print(%d) = %s", n, Print(n))
		}
	}
	for _, n := range edges() {
		s := big.NewInt(n).String()
		if Print(n) != s {
			t.Errorf("Print(%d) = %s", n, Print(n))
		}
		if got, e := Parse(s); got != n || e != api.OK {
			t.Errorf("Parse(%s) = %d, %d", s, got, e)
		}
	}
}

// P1.3: texts that are none, also where they would be too great; and numbers that are too great.
func TestWrongTexts(t *testing.T) {
	nines := strings.Repeat("9", 400)
	for s, want := range map[string]api.Errno{
		"": api.ErrForm, "-": api.ErrForm, "--1": api.ErrForm, "+1": api.ErrForm, "+": api.ErrForm,
		"-0": api.ErrForm, "00": api.ErrForm, "07": api.ErrForm, "-07": api.ErrForm, "-00": api.ErrForm,
		" 1": api.ErrForm, "1 ": api.ErrForm, "1_0": api.ErrForm, "0x1": api.ErrForm, "1e3": api.ErrForm,
		"1.0": api.ErrForm, "1-": api.ErrForm, "a": api.ErrForm, "1/": api.ErrForm, "1:": api.ErrForm,
		"\x00": api.ErrForm, "1\x00": api.ErrForm, "\xff": api.ErrForm, "\u0661": api.ErrForm,
		nines + "x": api.ErrForm, "-" + nines + " ": api.ErrForm, "0" + nines: api.ErrForm, "-0" + nines: api.ErrForm,
		"9223372036854775808": api.ErrOver, "-9223372036854775809": api.ErrOver,
		"9999999999999999999": api.ErrOver, "-9999999999999999999": api.ErrOver,
		"18446744073709551615": api.ErrOver, "18446744073709551616": api.ErrOver, "18446744073709551617": api.ErrOver,
		"-18446744073709551617": api.ErrOver, "10000000000000000000": api.ErrOver, "100000000000000000000": api.ErrOver,
		nines: api.ErrOver, "-" + nines: api.ErrOver,
	} {
		if n, e := Parse(s); n != 0 || e != want {
			t.Errorf("Parse(%q) = %d, %d; want %d", s, n, e, want)
		}
	}
}
