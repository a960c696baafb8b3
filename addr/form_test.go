package addr

import (
	"bytes"
	"math"
	"slices"
	"strings"
	"testing"

	"surety/api"
)

func join(parts ...any) []byte {
	var b []byte
	for _, p := range parts {
		switch p := p.(type) {
		case int:
			b = append(b, byte(p))
		case string:
			b = append(b, p...)
		case []byte:
			b = append(b, p...)
		}
	}
	return b
}

type formRow struct {
	k    api.Key
	form []byte
}

// formRows are objects with their forms written out.
func formRows() []formRow {
	long := strings.Repeat("z", 24)
	return []formRow{
		{api.Key{A: plain("a", "b"), N: 1}, join(1, "a", 1, "b", 0, 1)},
		{api.Key{A: plain("disk", "d"), N: 127}, join(4, "disk", 1, "d", 0, 127)},
		{api.Key{A: plain("disk", "d_1"), N: 128}, join(4, "disk", 3, "d_1", 0, 0x80, 1)},
		{api.Key{A: plain("a", "b"), N: 300}, join(1, "a", 1, "b", 0, 0xac, 2)},
		{api.Key{A: plain("a", "b"), N: 1 << 31}, join(1, "a", 1, "b", 0, 0x80, 0x80, 0x80, 0x80, 8)},
		{api.Key{A: plain("a", "b"), N: math.MaxUint32}, join(1, "a", 1, "b", 0, 0xff, 0xff, 0xff, 0xff, 15)},
		{api.Key{A: at("a", "b", 0), N: 1}, join(1, "a", 1, "b", 1, 0, 1)},
		{api.Key{A: at("disk", "d", 3), N: 2}, join(4, "disk", 1, "d", 1, 3, 2)},
		{api.Key{A: at("a", "b", 127), N: 300}, join(1, "a", 1, "b", 1, 127, 0xac, 2)},
		{api.Key{A: of("a", "b", "k"), N: 1}, join(1, "a", 1, "b", 2, 1, "k", 1)},
		{api.Key{A: of("disk", "d", "a.b-C"), N: 256}, join(4, "disk", 1, "d", 2, 5, "a.b-C", 0x80, 2)},
		{api.Key{A: of(long, long, long), N: math.MaxUint32}, join(24, long, 24, long, 2, 24, long, 0xff, 0xff, 0xff, 0xff, 15)},
	}
}

func get(t *testing.T, b []byte, want api.Key, used int, e api.Errno) {
	t.Helper()
	if k, n, got := Get(b); k != want || n != used || got != e {
		t.Errorf("Get(%.60x) = %v, %d, %d; want %v, %d, %d", b, k, n, got, want, used, e)
	}
}

func fails(t *testing.T, b []byte, e api.Errno) {
	t.Helper()
	get(t, b, api.Key{}, 0, e)
}

// P6.3: what is laid, behind nothing and behind bytes; it is read as it was, whatever is behind it.
func TestForms(t *testing.T) {
	for _, r := range formRows() {
		for _, b := range [][]byte{nil, {}, {9}, {0, 0xff, 1}} {
			if got := Put(b, r.k); !bytes.Equal(got, join(b, r.form)) {
				t.Errorf("Put(%x, %v) = %x; want %x", b, r.k, got, join(b, r.form))
			}
		}
		for _, tail := range []string{"", "\x00", "\xff", "\x80\x00", "rest"} {
			get(t, join(r.form, tail), r.k, len(r.form), api.OK)
		}
	}
	for _, a := range good() {
		for _, n := range []uint32{1, 127, 128, 1<<14 - 1, 1 << 14, 1 << 21, 1 << 28, math.MaxUint32} {
			k := api.Key{A: a, N: n}
			b := Put(nil, k)
			get(t, b, k, len(b), api.OK)
		}
	}
}

// P6.3: what may not be has no form.
func TestPutOfWhatMayNotBe(t *testing.T) {
	var l []api.Key
	for _, a := range bad() {
		l = append(l, api.Key{A: a, N: 1}, api.Key{A: a})
	}
	for _, a := range good() {
		l = append(l, api.Key{A: a})
	}
	for _, k := range l {
		for _, b := range [][]byte{nil, {}, {9, 8}} {
			if got := Put(b, k); !bytes.Equal(got, b) {
				t.Errorf("Put(%x, %.60v) = %.60x", b, k, got)
			}
		}
	}
}

// P6.3, R4: what is laid is new memory, and the room behind b is neither read nor written.
func TestPutLeavesBAlone(t *testing.T) {
	for _, k := range []api.Key{{A: of("a", "b", "k"), N: 5}, {A: plain("a", "b"), N: 1}, {}} {
		all := join(1, 2, 3, bytes.Repeat([]byte{0xee}, 40))
		b := all[:3]
		was := bytes.Clone(all)
		got := Put(b, k)
		again := Put(b, k)
		want := bytes.Clone(again)
		for i := range got {
			got[i] = 0x55
		}
		if !bytes.Equal(all, was) {
			t.Errorf("Put of %v changed b: %x", k, all)
		}
		if !bytes.Equal(again, want) || !bytes.Equal(Put(b, k), want) {
			t.Errorf("Put of %v: two answers share memory", k)
		}
	}
}

// P6.3: ErrShort wherever b ends ahead of the form's end; the room behind b isn't read.
func TestGetOfBeginnings(t *testing.T) {
	fails(t, nil, api.ErrShort)
	for _, r := range formRows() {
		for i := range r.form {
			fails(t, r.form[:i], api.ErrShort)
		}
	}
}

// P6.3: each byte as a Kind.
func TestGetOfEachKind(t *testing.T) {
	for c := range 256 {
		b := join(1, "a", 1, "b", c, 1, "7", 1)
		switch c {
		case api.NoKey:
			get(t, b, api.Key{A: plain("a", "b"), N: 1}, 6, api.OK)
		case api.IntKey:
			get(t, b, api.Key{A: at("a", "b", 1), N: '7'}, 7, api.OK)
		case api.StrKey:
			get(t, b, api.Key{A: of("a", "b", "7"), N: 1}, 8, api.OK)
		default:
			fails(t, b, api.ErrForm)
			fails(t, b[:5], api.ErrForm)
			fails(t, b[:4], api.ErrShort)
		}
	}
}

// P6.3: texts at 24 bytes and beyond, in each of the three places; too long is told ahead of too short.
func TestGetOfLongTexts(t *testing.T) {
	long := strings.Repeat("a", 25)
	greatest := "\xff\xff\xff\xff\xff\xff\xff\xff\xff\x01"
	for _, ahead := range [][]byte{{}, join(1, "a"), join(1, "a", 1, "b", 2)} {
		fails(t, join(ahead, 25, long, 1, "b", 0, 1), api.ErrLong)
		fails(t, join(ahead, 25), api.ErrLong)
		fails(t, join(ahead, 24, long[:23]), api.ErrShort)
		fails(t, join(ahead, 0x80, 1), api.ErrLong)
		fails(t, join(ahead, greatest, long), api.ErrLong)
		fails(t, join(ahead, 0x80, 0), api.ErrForm)
		fails(t, join(ahead, 0x80), api.ErrShort)
		fails(t, join(ahead, "\xff\xff\xff\xff\xff\xff\xff\xff\xff\x02"), api.ErrForm)
	}
	get(t, join(24, long[:24], 24, long[:24], 2, 24, long[:24], 1), api.Key{A: of(long[:24], long[:24], long[:24]), N: 1}, 77, api.OK)
}

// shorts are short forms, each with whether it goes into an I that may be, and into an N.
func shorts() []struct {
	form string
	i, n bool
} {
	return []struct {
		form string
		i, n bool
	}{
		{"\x00", true, false},
		{"\x01", true, true},
		{"\x7f", true, true},
		{"\x80\x01", false, true},
		{"\xff\xff\xff\xff\x0f", false, true},
		{"\x80\x80\x80\x80\x10", false, false},                     // 2^32
		{"\x81\x80\x80\x80\x10", false, false},                     // 2^32 + 1
		{"\xff\xff\xff\xff\xff\xff\xff\xff\x7f", false, false},     // 2^63 - 1
		{"\x80\x80\x80\x80\x80\x80\x80\x80\x80\x01", false, false}, // 2^63
		{"\x81\x80\x80\x80\x80\x80\x80\x80\x80\x01", false, false}, // 2^63 + 1
		{"\xff\xff\xff\xff\xff\xff\xff\xff\xff\x01", false, false}, // 2^64 - 1
	}
}

// P6.3: numbers at the ends of their fields and beyond: none wraps into one that may be.
func TestGetOfNumbers(t *testing.T) {
	for _, x := range shorts() {
		for _, ahead := range [][]byte{join(1, "a", 1, "b", 0), join(1, "a", 1, "b", 1, 5), join(1, "a", 1, "b", 2, 1, "k")} {
			b := join(ahead, x.form)
			if k, used, e := Get(b); (e == api.OK) != x.n || e == api.OK && (used != len(b) || !bytes.Equal(Put(nil, k), b)) {
				t.Errorf("N of %x: %v, %d, %d", b, k, used, e)
			}
			if !x.n {
				fails(t, b, api.ErrForm)
			}
		}
		b := join(1, "a", 1, "b", 1, x.form, 1)
		if k, used, e := Get(b); (e == api.OK) != x.i || e == api.OK && (used != len(b) || !bytes.Equal(Put(nil, k), b)) {
			t.Errorf("I of %x: %v, %d, %d", b, k, used, e)
		}
		if !x.i {
			fails(t, b, api.ErrForm)
		}
	}
	for _, ahead := range [][]byte{join(1, "a", 1, "b", 0), join(1, "a", 1, "b", 1)} {
		fails(t, join(ahead, "\x80\x00\x01"), api.ErrForm)
		fails(t, join(ahead, "\xff\xff\xff\xff\xff\xff\xff\xff\xff\x02"), api.ErrForm)
		fails(t, join(ahead, "\x80"), api.ErrShort)
	}
}

// P6.3: what isn't a name, a key or a number that goes into its field is told behind all else that is wrong.
func TestGetTellsWhatMayNotBeLast(t *testing.T) {
	for _, s := range append(notNames(), notWords()...) {
		if len(s) > 24 {
			continue
		}
		if !Name(s) {
			fails(t, join(len(s), s, 1, "b", 0, 1), api.ErrForm)
			fails(t, join(1, "a", len(s), s, 0, 1), api.ErrForm)
			fails(t, join(len(s), s), api.ErrShort)
			fails(t, join(len(s), s, 25), api.ErrLong)
			fails(t, join(1, "a", len(s), s, 2, 25), api.ErrLong)
			fails(t, join(len(s), s, 1, "b", 1, 1), api.ErrShort)
		}
		if !Word(s) {
			fails(t, join(1, "a", 1, "b", 2, len(s), s, 1), api.ErrForm)
			fails(t, join(1, "a", 1, "b", 2, len(s), s), api.ErrShort)
		}
	}
	for _, x := range shorts() {
		if !x.i {
			fails(t, join(1, "a", 1, "b", 1, x.form), api.ErrShort)
			fails(t, join(1, "a", 1, "b", 1, x.form, 0x80), api.ErrShort)
		}
	}
	fails(t, join(0, 0, 0, 0), api.ErrForm)
	fails(t, join(0, 0, 3), api.ErrForm)
	fails(t, join(0, 0, 2, 25), api.ErrLong)
	fails(t, join(0, 0), api.ErrShort)
	fails(t, join(1, "a", 1, "b", 0, 0), api.ErrForm)
	fails(t, join(1, "a", 1, "b", 2, 0, 1), api.ErrForm)
	fails(t, join(1, "a", 1, "b", 1, 128, 1, 1), api.ErrForm)
}

// R4: what is read shares no memory with b, and b is as it was.
func TestGetLeavesBAlone(t *testing.T) {
	k := api.Key{A: of("disk", "name", "key"), N: 300}
	b := Put(nil, k)
	was := bytes.Clone(b)
	got, _, _ := Get(b)
	if !bytes.Equal(b, was) {
		t.Fatalf("b was changed: %x", b)
	}
	for i := range b {
		b[i] = 'z'
	}
	if got != k {
		t.Errorf("what was read changed with b: %v", got)
	}
}

// P6.3: forms with a byte changed, put in or taken out: what is read may be, and is laid again as it stood.
func TestWhatIsReadIsLaidAgain(t *testing.T) {
	holds := func(b []byte) {
		k, used, e := Get(b)
		if e != api.OK {
			fails(t, b, e)
			return
		}
		if CheckKey(k) != api.OK || !bytes.Equal(Put(nil, k), b[:used]) {
			t.Errorf("%x is read as %v, %d", b, k, used)
		}
	}
	for _, r := range formRows() {
		for i := range r.form {
			for c := range 256 {
				b := bytes.Clone(r.form)
				b[i] = byte(c)
				holds(b)
				holds(slices.Insert(bytes.Clone(r.form), i, byte(c)))
			}
			holds(slices.Delete(bytes.Clone(r.form), i, i+1))
		}
	}
}

// P6.3: unlike objects have unlike forms, and none is the beginning of another one.
func TestNoFormBeginsAnother(t *testing.T) {
	var forms []string
	for _, a := range good() {
		for _, n := range []uint32{1, 2, 127, 128, 129, 300, math.MaxUint32} {
			forms = append(forms, string(Put(nil, api.Key{A: a, N: n})))
		}
	}
	// Of texts in order, one that begins another stands right ahead of one that it begins.
	slices.Sort(forms)
	for i := 1; i < len(forms); i++ {
		if strings.HasPrefix(forms[i], forms[i-1]) {
			t.Errorf("%x begins %x", forms[i-1], forms[i])
		}
	}
}
