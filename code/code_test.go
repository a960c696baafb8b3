package code

import (
	"bytes"
	"crypto/sha256"
	"fmt"
	"math"
	"slices"
	"strings"
	"testing"

	"surety/api"
	"surety/typ"
	"surety/value"
)

var null = api.Value{}

func unknown(kind, of int) api.Value { return value.Unknown(api.Type{Kind: kind, Of: of}) }

// dict is a map as it is given, whatever its keys.
func dict(keys []string, l ...api.Value) api.Value {
	return api.Value{Kind: api.VMap, Keys: keys, L: l}
}

func nested(n int, v api.Value) api.Value {
	for range n {
		v = api.Value{Kind: api.VList, L: []api.Value{v}}
	}
	return v
}

// wide is a list of so many lists of so many nulls.
func wide(lists, nulls int) api.Value {
	l := make([]api.Value, lists)
	for i := range l {
		l[i] = value.List(make([]api.Value, nulls)...)
	}
	return value.List(l...)
}

// manyKeys are n keys that rise.
func manyKeys(n int) []string {
	l := make([]string, n)
	for i := range l {
		l[i] = string([]byte{byte(i >> 8), byte(i)})
	}
	return l
}

func join(parts ...any) []byte {
	var b []byte
	for _, p := range parts {
		switch p := p.(type) {
		case int:
			b = append(b, byte(p))
		case string:
			b = append(b, p...)
		case []byte:
			b = append(b, p...)
		}
	}
	return b
}

type row struct {
	v    api.Value
	form []byte
}

// rows are values with their forms written out.
func rows() []row {
	long := strings.Repeat("x", api.MaxStr)
	l := []row{
		{null, join(0)},
		{value.Bool(false), join(1, 0)},
		{value.Bool(true), join(1, 1)},
		{value.Int(0), join(2, 0)},
		{value.Int(-1), join(2, 1)},
		{value.Int(1), join(2, 2)},
		{value.Int(63), join(2, 126)},
		{value.Int(-64), join(2, 127)},
		{value.Int(64), join(2, 0x80, 1)},
		{value.Int(150), join(2, 0xac, 2)},
		{value.Int(math.MaxInt64), join(2, 0xfe, 0xff, 0xff, 0xff, 0xff, 0xff, 0xff, 0xff, 0xff, 1)},
		{value.Int(math.MinInt64), join(2, 0xff, 0xff, 0xff, 0xff, 0xff, 0xff, 0xff, 0xff, 0xff, 1)},
		{value.Str(""), join(3, 0)},
		{value.Str("a"), join(3, 1, "a")},
		{value.Str("\x00\xff"), join(3, 2, 0, 0xff)},
		{value.Str(long[:128]), join(3, 0x80, 1, long[:128])},
		{value.Str(long), join(3, 0x80, 8, long)},
		{value.List(), join(4, 0)},
		{value.List(null), join(4, 1, 0)},
		{value.List(value.Int(1), value.Str("a"), value.List()), join(4, 3, 2, 2, 3, 1, "a", 4, 0)},
		{value.List(make([]api.Value, api.MaxItems)...), join(4, 0x80, 1, make([]byte, 128))},
		{dict(nil), join(5, 0)},
		{dict([]string{""}, null), join(5, 1, 0, 0)},
		{dict([]string{"a", "ab", "b"}, value.Bool(true), null, value.Int(1)), join(5, 3, 1, "a", 1, 1, 2, "ab", 0, 1, "b", 2, 2)},
		{dict([]string{long}, null), join(5, 1, 0x80, 8, long, 0)},
		{dict([]string{"k"}, dict([]string{"a"}, value.List(unknown(api.Any, 0)))), join(5, 1, 1, "k", 5, 1, 1, "a", 4, 1, 6, 0)},
		{nested(7, null), join(4, 1, 4, 1, 4, 1, 4, 1, 4, 1, 4, 1, 4, 1, 0)},
		{nested(7, dict(nil)), join(4, 1, 4, 1, 4, 1, 4, 1, 4, 1, 4, 1, 4, 1, 5, 0)},
		{value.List(value.Mark(null), null), join(4, 2, 0x80, 0)},
	}
	for _, t := range typ.All() {
		l = append(l, row{value.Unknown(t), join(6, int(typ.Code(t)))})
	}
	l = append(l, row{unknown(api.Str, 0), join(6, 24)}, row{unknown(api.Map, api.Int), join(6, 42)})
	for _, r := range slices.Clone(l) {
		form := bytes.Clone(r.form)
		form[0] += 0x80
		l = append(l, row{value.Mark(r.v), form})
	}
	return l
}

// P5.1: what is laid, of each kind, marked and not, behind nothing and behind bytes.
func TestPutOfRows(t *testing.T) {
	for _, r := range rows() {
		for _, b := range [][]byte{nil, {}, {9}, {0, 1, 2}} {
			if got := Put(b, r.v); !bytes.Equal(got, join(b, r.form)) {
				t.Errorf("Put(%x, form %.40x) = %.60x", b, r.form, got)
			}
		}
	}
}

// P5.1: what may not be has no form.
func TestPutOfWhatMayNotBe(t *testing.T) {
	long := strings.Repeat("x", api.MaxStr+1)
	for what, v := range map[string]api.Value{
		"no kind":             {Kind: 7},
		"kind below 0":        {Kind: -1},
		"a kind beyond bytes": {Kind: 256},
		"truth 2":             {Kind: api.VBool, I: 2},
		"null with a number":  {I: 1},
		"long text":           value.Str(long),
		"long key":            dict([]string{long}, null),
		"too many":            value.List(make([]api.Value, api.MaxItems+1)...),
		"too many in a map":   dict(manyKeys(129), make([]api.Value, 129)...),
		"same keys":           dict([]string{"a", "a"}, null, null),
		"falling keys":        dict([]string{"b", "a"}, null, null),
		"more keys":           dict([]string{"a", "b"}, null),
		"fewer keys":          dict([]string{"a"}, null, null),
		"no type":             unknown(6, 0),
		"list of lists":       unknown(api.List, api.List),
		"too deep":            nested(8, null),
		"much too deep":       nested(1<<16, null),
		"too heavy":           wide(4, 127),
		"inside":              value.List(null, value.List(value.Str(long))),
	} {
		for _, b := range [][]byte{nil, {}, {9, 8}} {
			if got := Put(b, v); !bytes.Equal(got, b) {
				t.Errorf("Put(%x, %s) = %.40x", b, what, got)
			}
		}
	}
	if got := Put(nil, wide(3, 127)); len(got) != 2+3*(2+127) {
		t.Errorf("what weighs 385 has a form of %d bytes", len(got))
	}
}

func roomy(b ...byte) []byte {
	all := append(bytes.Clone(b), 0xee, 0xee, 0xee, 0xee, 0xee, 0xee, 0xee, 0xee)
	return all[:len(b)]
}

// P5.1, P5.2, R4: what is laid is new memory, and the room behind b is neither read nor written.
func TestPutLeavesBAlone(t *testing.T) {
	for what, put := range map[string]func(b []byte) []byte{
		"Put":                    func(b []byte) []byte { return Put(b, value.Int(-1)) },
		"Put of what may not be": func(b []byte) []byte { return Put(b, api.Value{Kind: 7}) },
		"PutStr":                 func(b []byte) []byte { return PutStr(b, "ab") },
		"PutStr of nothing":      func(b []byte) []byte { return PutStr(b, "") },
	} {
		b := roomy(1, 2, 3)
		got := put(b)
		again := put(b)
		for i := range got {
			got[i] = 0x55
		}
		if all := b[:cap(b)]; !bytes.Equal(all[:11], join(1, 2, 3, bytes.Repeat([]byte{0xee}, 8))) {
			t.Errorf("%s changed b: %x", what, all)
		}
		if !bytes.Equal(again, put(b)) {
			t.Errorf("%s: two answers share memory", what)
		}
	}
}

func get(t *testing.T, what string, b []byte, want api.Value, used int, e api.Errno) {
	t.Helper()
	v, n, got := Get(b)
	if got != e || n != used || !value.Same(v, want) {
		t.Errorf("Get of %s (%.30x): %.60s, %d, %d; want used %d, error %d", what, b, fmt.Sprint(v), n, got, used, e)
	}
}

func fails(t *testing.T, what string, b []byte, e api.Errno) {
	t.Helper()
	get(t, what, b, api.Value{}, 0, e)
}

// P5.1, P5.3: what is laid is read as it was, whatever is behind it.
func TestGetOfRows(t *testing.T) {
	for _, r := range rows() {
		for _, tail := range []string{"", "\x00", "\xff", "\x80\x80", "rest"} {
			get(t, "a row", join(r.form, tail), r.v, len(r.form), api.OK)
		}
		if v, _, _ := Get(r.form); value.Check(v) != api.OK {
			t.Errorf("what is read of %x may not be", r.form)
		}
	}
}

// P5.1: ErrShort wherever the bytes end ahead of the form's end; the room behind them isn't read.
func TestGetOfBeginnings(t *testing.T) {
	fails(t, "nil", nil, api.ErrShort)
	for _, r := range rows() {
		for i := range r.form {
			fails(t, "a beginning", r.form[:i], api.ErrShort)
		}
	}
}

// P5.1: the first byte, each of all.
func TestGetOfEachHead(t *testing.T) {
	tails := [7]string{"", "\x01", "\x03", "\x01x", "\x01\x00", "\x01\x01x\x00", "\x10"}
	wants := [7]api.Value{null, value.Bool(true), value.Int(-2), value.Str("x"), value.List(null), dict([]string{"x"}, null), unknown(api.Int, 0)}
	for c := range 256 {
		kind := c & 0x7f
		if kind > 6 {
			fails(t, "no kind", join(c), api.ErrForm)
			fails(t, "no kind with more", join(c, 0, 0, 0), api.ErrForm)
			fails(t, "no kind inside", join(4, 1, c, 0, 0), api.ErrForm)
			continue
		}
		want := wants[kind]
		want.Secret = c >= 0x80
		get(t, "a head", join(c, tails[kind], 7), want, 1+len(tails[kind]), api.OK)
	}
}

// P5.1: bytes that are no truth, no Code, no short form.
func TestGetOfWhatIsOutOfForm(t *testing.T) {
	for c := range 256 {
		if c > 1 {
			fails(t, "no truth", join(1, c), api.ErrForm)
			fails(t, "no truth, marked", join(0x81, c, 0), api.ErrForm)
		}
		if want, e := typ.Of(byte(c)); e != api.OK {
			fails(t, "no Code", join(6, c), api.ErrForm)
		} else {
			get(t, "a Code", join(6, c), value.Unknown(want), 2, api.OK)
		}
	}
	for _, bad := range []string{"\x80\x00", "\x81\x00", "\xff\x80\x00", "\xff\xff\xff\xff\xff\xff\xff\xff\xff\x02", "\xff\xff\xff\xff\xff\xff\xff\xff\xff\xff"} {
		fails(t, "a number", join(2, bad), api.ErrForm)
		fails(t, "a text", join(3, bad, "x"), api.ErrForm)
		fails(t, "a list", join(4, bad, 0), api.ErrForm)
		fails(t, "a map", join(5, bad, 0), api.ErrForm)
		fails(t, "a key", join(5, 1, bad, 0), api.ErrForm)
		fails(t, "inside", join(4, 2, 0, 2, bad), api.ErrForm)
	}
}

// P5.1: texts and keys at MaxStr and beyond; too long is told ahead of too short.
func TestGetOfLongTexts(t *testing.T) {
	long := strings.Repeat("x", api.MaxStr+1)
	most := "\x80\x08"
	more := "\x81\x08"
	fails(t, "a text one too short", join(3, most, long[:1023]), api.ErrShort)
	get(t, "the longest text", join(3, most, long), value.Str(long[:1024]), 1027, api.OK)
	fails(t, "too long a text", join(3, more, long), api.ErrLong)
	fails(t, "too long a text that isn't there", join(3, more), api.ErrLong)
	fails(t, "the greatest length", join(3, "\xff\xff\xff\xff\xff\xff\xff\xff\xff\x01", long), api.ErrLong)
	fails(t, "too long a key", join(5, 1, more, long, 0), api.ErrLong)
	fails(t, "too long a key that isn't there", join(5, 1, more), api.ErrLong)
	fails(t, "too long a second key", join(5, 2, 1, "a", 0, more), api.ErrLong)
	fails(t, "too long a second key, below the first", join(5, 2, 1, "y", 0, more, long, 0), api.ErrLong)
}

// P5.1: MaxItems elements and more; too many is told ahead of them.
func TestGetOfManyElements(t *testing.T) {
	nulls := make([]byte, 129)
	get(t, "most", join(4, 0x80, 1, nulls[:128]), value.List(make([]api.Value, 128)...), 131, api.OK)
	fails(t, "too many", join(4, 0x81, 1, nulls), api.ErrLong)
	fails(t, "too many, and none there", join(4, 0x81, 1), api.ErrLong)
	fails(t, "too many, the first out of form", join(4, 0x81, 1, 7), api.ErrLong)
	fails(t, "too many in a map", join(5, 0x81, 1), api.ErrLong)
	fails(t, "the greatest count", join(4, "\xff\xff\xff\xff\xff\xff\xff\xff\xff\x01"), api.ErrLong)
	fails(t, "2^63", join(5, "\x80\x80\x80\x80\x80\x80\x80\x80\x80\x01"), api.ErrLong)
	keys := manyKeys(128)
	m := dict(keys, make([]api.Value, 128)...)
	b := join(5, 0x80, 1)
	for _, k := range keys {
		b = join(b, 2, k, 0)
	}
	get(t, "most of a map", b, m, len(b), api.OK)
}

// P5.1: an element at a depth above MaxDepth is told ahead of it, behind what is ahead of it.
func TestGetOfDepth(t *testing.T) {
	seven := bytes.Repeat([]byte{4, 1}, 7)
	get(t, "depth 8", join(seven, 1, 1), nested(7, value.Bool(true)), 16, api.OK)
	get(t, "an empty list at depth 8", join(seven, 4, 0), nested(7, value.List()), 16, api.OK)
	get(t, "an empty map at depth 8", join(seven, 5, 0), nested(7, dict(nil)), 16, api.OK)
	fails(t, "depth 9", join(seven, 4, 1, 0), api.ErrDeep)
	fails(t, "depth 9 that isn't there", join(seven, 4, 1), api.ErrDeep)
	fails(t, "depth 9 out of form", join(seven, 4, 1, 7), api.ErrDeep)
	fails(t, "depth 9 of many", join(seven, 4, 0x80, 1), api.ErrDeep)
	fails(t, "too many at depth 9", join(seven, 4, 0x81, 1), api.ErrLong)
	fails(t, "no count at depth 9", join(seven, 4), api.ErrShort)
	fails(t, "a map at depth 9", join(seven, 5, 1, 1, "a", 0), api.ErrDeep)
	fails(t, "a map at depth 9 behind its key", join(seven, 5, 1, 1, "a"), api.ErrDeep)
	fails(t, "a map at depth 9 without its key", join(seven, 5, 1), api.ErrShort)
	fails(t, "a map at depth 9 with half a key", join(seven, 5, 1, 2, "a"), api.ErrShort)
	fails(t, "a map at depth 9 with a bad key", join(seven, 5, 1, 0x80, 0), api.ErrForm)
	fails(t, "much deeper", bytes.Repeat([]byte{4, 1}, 1<<16), api.ErrDeep)
	fails(t, "much deeper in maps", bytes.Repeat([]byte{5, 1, 0}, 1<<16), api.ErrDeep)
	b := join(4, 2, 4, 0, bytes.Repeat([]byte{4, 1}, 6), 0)
	get(t, "depth 8 behind another", b, value.List(value.List(), nested(6, null)), len(b), api.OK)
}

// P5.1: each key is above the one ahead.
func TestGetOfKeys(t *testing.T) {
	for _, pair := range [][2]string{{"a", "a"}, {"", ""}, {"b", "a"}, {"ab", "a"}, {"a", ""}, {"\x80", "\x7f"}, {"b", "aa"}, {"\xff", "z"}} {
		a, b := pair[0], pair[1]
		fails(t, "keys that don't rise", join(5, 2, len(a), a, 0, len(b), b, 0), api.ErrForm)
		fails(t, "keys that don't rise, at the end", join(5, 2, len(a), a, 0, len(b), b), api.ErrForm)
		fails(t, "keys that don't rise, ahead of what is out of form", join(5, 2, len(a), a, 0, len(b), b, 1, 2), api.ErrForm)
		if a != b {
			form := join(5, 2, len(b), b, 0, len(a), a, 0)
			get(t, "keys that rise", form, dict([]string{b, a}, null, null), len(form), api.OK)
		}
	}
	fails(t, "a third key above the first alone", join(5, 3, 1, "a", 0, 1, "c", 0, 1, "b", 0), api.ErrForm)
	fails(t, "a fault ahead of a key", join(5, 2, 1, "a", 4, 0x81, 1, 1, "a", 0), api.ErrLong)
	fails(t, "a key ahead of a fault", join(5, 2, 1, "a", 0, 1, "a", 4, 0x81, 1), api.ErrForm)
	fails(t, "a key ahead of the end", join(5, 3, 1, "a", 0, 1, "a", 0), api.ErrForm)
	inner := join(5, 2, 1, "x", 0, 1, "y", 5, 1, 1, "a", 0)
	get(t, "keys within keys", inner, dict([]string{"x", "y"}, null, dict([]string{"a"}, null)), len(inner), api.OK)
}

// P5.1: a weight above 4 MaxItems is told behind all else.
func TestGetOfWeight(t *testing.T) {
	lists := func(counts ...int) []byte {
		b := join(4, len(counts))
		for _, n := range counts {
			b = join(b, Put(nil, value.List(make([]api.Value, n)...)))
		}
		return b
	}
	full := lists(128, 128, 128, 123)
	v, n, e := Get(full)
	if e != api.OK || n != len(full) || value.Weight(v) != 512 || !bytes.Equal(Put(nil, v), full) {
		t.Errorf("what weighs 512: %d, %d, weight %d", n, e, value.Weight(v))
	}
	heavy := lists(128, 128, 128, 124)
	fails(t, "513", heavy, api.ErrLong)
	fails(t, "513, with more", join(heavy, 7), api.ErrLong)
	fails(t, "513, the last byte missing", heavy[:len(heavy)-1], api.ErrShort)
	fails(t, "513, and a fault behind it", join(lists(128, 128, 128, 128)[:len(heavy)], 7), api.ErrForm)
	more := join(4, 5, lists(128, 128, 128, 124)[2:])
	fails(t, "513, and then too deep", join(more, bytes.Repeat([]byte{4, 1}, 8)), api.ErrDeep)
	fails(t, "513, and then no key above", join(more, 5, 2, 1, "b", 0, 1, "a", 0), api.ErrForm)
	fails(t, "513, and then same keys", join(more, 5, 2, 1, "b", 0, 1, "b", 0), api.ErrForm)
	fails(t, "513, and then a good map", join(more, 5, 2, 1, "a", 0, 1, "b", 0), api.ErrLong)
	half := join(4, 0x80, 1, bytes.Repeat([]byte{4, 1, 0}, 128))
	get(t, "257", half, wide(128, 1), len(half), api.OK)
	three := join(4, 0x80, 1, bytes.Repeat([]byte{4, 3, 0, 0, 0}, 127), 4, 2, 0, 0)
	get(t, "512 of threes", three, value.List(append(slices.Clone(wide(127, 3).L), value.List(null, null))...), len(three), api.OK)
	fails(t, "513 of threes", join(4, 0x80, 1, bytes.Repeat([]byte{4, 3, 0, 0, 0}, 128)), api.ErrLong)
	fails(t, "millions", join(4, 0x80, 1, bytes.Repeat(join(4, 0x80, 1, bytes.Repeat(join(4, 0x80, 1, make([]byte, 128)), 128)), 128)), api.ErrLong)
}

// R4: what is read shares no memory with b, and b is as it was.
func TestGetLeavesBAlone(t *testing.T) {
	v := dict([]string{"k", "l"}, value.Str("text"), value.List(value.Str("more")))
	b := Put(nil, v)
	was := bytes.Clone(b)
	got, _, _ := Get(b)
	s, _, _ := GetStr(b[3:], 9)
	if !bytes.Equal(b, was) {
		t.Fatalf("b was changed: %x", b)
	}
	want := strings.Clone(s)
	for i := range b {
		b[i] = 'z'
	}
	if !value.Same(got, v) || s != want {
		t.Errorf("what was read changed with b: %v %q", got, s)
	}
}

// R4: an element may be changed, and one behind another be laid, without another call telling it.
func TestGetAnswersNewMemory(t *testing.T) {
	b := Put(nil, dict([]string{"a", "b"}, value.List(null), value.List(null)))
	one, _, _ := Get(b)
	_ = append(one.L[0].L, value.Int(1))
	one.L[0].L[0] = value.Int(5)
	one.Keys[0] = "z"
	two, _, _ := Get(b)
	if !bytes.Equal(Put(nil, two), b) || !value.Same(one.L[1], value.List(null)) {
		t.Errorf("two answers share memory: %v %v", one, two)
	}
}

// P5.2: the fingerprint of the form; of what has none, that of no bytes.
func TestOf(t *testing.T) {
	for _, r := range rows() {
		if Of(r.v) != api.Sum(sha256.Sum256(r.form)) {
			t.Errorf("Of form %.40x is another one", r.form)
		}
	}
	for _, v := range []api.Value{{Kind: 7}, nested(1<<16, null), value.Str(strings.Repeat("x", 1025))} {
		if Of(v) != api.Sum(sha256.Sum256(nil)) {
			t.Errorf("Of what may not be is another one than that of no bytes")
		}
	}
}

// P5.2: texts with their lengths ahead, without a limit.
func TestPutStr(t *testing.T) {
	long := strings.Repeat("y", 1<<17)
	for _, r := range []struct {
		s    string
		form []byte
	}{
		{"", join(0)},
		{"a", join(1, "a")},
		{"\x00\x80\xff", join(3, "\x00\x80\xff")},
		{long[:127], join(127, long[:127])},
		{long[:128], join(0x80, 1, long[:128])},
		{long[:1025], join(0x81, 8, long[:1025])},
		{long, join(0x80, 0x80, 8, long)},
	} {
		for _, b := range [][]byte{nil, {}, {7, 7}} {
			if got := PutStr(b, r.s); !bytes.Equal(got, join(b, r.form)) {
				t.Errorf("PutStr(%x, %d bytes) = %.40x", b, len(r.s), got)
			}
		}
		for _, most := range []int{len(r.s), len(r.s) + 1, math.MaxInt} {
			s, used, e := GetStr(join(r.form, "rest"), most)
			if s != r.s || used != len(r.form) || e != api.OK {
				t.Errorf("GetStr of %d bytes, at most %d: %d bytes, %d, %d", len(r.s), most, len(s), used, e)
			}
		}
	}
}

// P5.2: layer 1's errors, then ErrLong, then ErrShort; most counts as 0 below 0.
func TestGetStrOfWrongInputs(t *testing.T) {
	greatest := "\xff\xff\xff\xff\xff\xff\xff\xff\xff\x01"
	for _, r := range []struct {
		b    string
		most int
		e    api.Errno
	}{
		{"", 5, api.ErrShort},
		{"", -1, api.ErrShort},
		{"\x80", 5, api.ErrShort},
		{"\x80", 0, api.ErrShort},
		{"\x80\x00", 0, api.ErrForm},
		{"\x81\x00", 500, api.ErrForm},
		{"\xff\xff\xff\xff\xff\xff\xff\xff\xff\x02", 5, api.ErrForm},
		{"\x03abc", 2, api.ErrLong},
		{"\x03ab", 2, api.ErrLong},
		{"\x03", 2, api.ErrLong},
		{"\x03ab", 3, api.ErrShort},
		{"\x03", 3, api.ErrShort},
		{"\x01a", 0, api.ErrLong},
		{"\x01a", -1, api.ErrLong},
		{"\x01a", math.MinInt, api.ErrLong},
		{"\x01", 0, api.ErrLong},
		{"\x01", math.MaxInt, api.ErrShort},
		{greatest, math.MaxInt, api.ErrLong},
		{"\xff\xff\xff\xff\xff\xff\xff\xff\x7f", math.MaxInt, api.ErrShort},
	} {
		if s, used, e := GetStr([]byte(r.b), r.most); s != "" || used != 0 || e != r.e {
			t.Errorf("GetStr(%x, %d) = %q, %d, %d; want %d", r.b, r.most, s, used, e, r.e)
		}
	}
	for _, most := range []int{0, -1, math.MinInt} {
		if s, used, e := GetStr([]byte{0, 1}, most); s != "" || used != 1 || e != api.OK {
			t.Errorf("GetStr of an empty text, at most %d: %q, %d, %d", most, s, used, e)
		}
	}
	if _, _, e := GetStr(roomy(2, 'a'), 5); e != api.ErrShort {
		t.Errorf("GetStr read the room behind b")
	}
	if _, _, e := Get(roomy(3, 2, 'a')); e != api.ErrShort {
		t.Errorf("Get read the room behind b")
	}
}

// many are values that may be, all unlike.
func many() []api.Value {
	atoms := []api.Value{null, value.Bool(false), value.Bool(true), value.Int(0), value.Int(1), value.Int(-1), value.Int(64), value.Str(""), value.Str("a"), value.Str("\x00"), unknown(api.Any, 0), unknown(api.Int, 0), value.List(), dict(nil)}
	for _, a := range slices.Clone(atoms) {
		atoms = append(atoms, value.Mark(a))
	}
	l := slices.Clone(atoms)
	for _, a := range atoms {
		l = append(l, value.List(a), value.Mark(value.List(a)), dict([]string{""}, a), dict([]string{"a"}, a), value.List(value.List(a)))
		for _, b := range atoms {
			l = append(l, value.List(a, b), dict([]string{"a", "b"}, a, b), dict([]string{"a", "c"}, a, b))
		}
	}
	return l
}

// P5.3: unlike values have unlike forms, and none is the beginning of another one.
func TestNoFormBeginsAnother(t *testing.T) {
	l := many()
	forms := make([]string, len(l))
	for i, v := range l {
		forms[i] = string(Put(nil, v))
		got, used, e := Get([]byte(forms[i]))
		if e != api.OK || used != len(forms[i]) || !value.Same(got, v) {
			t.Errorf("%x is read as %v", forms[i], got)
		}
	}
	// Of texts in order, one that begins another stands right ahead of one that it begins.
	slices.Sort(forms)
	for i := 1; i < len(forms); i++ {
		if strings.HasPrefix(forms[i], forms[i-1]) {
			t.Errorf("%x begins %x", forms[i-1], forms[i])
		}
	}
}

// holds tells whether what Get reads of b, if anything, may be, and is laid as it stood there.
func holds(b []byte) bool {
	v, used, e := Get(b)
	if e != api.OK {
		return used == 0 && value.Same(v, null)
	}
	return value.Check(v) == api.OK && bytes.Equal(Put(nil, v), b[:used])
}

// P5.3: what is read is laid as it stood there, of all short rows of bytes, and of forms with a byte changed.
func TestWhatIsReadIsLaidAgain(t *testing.T) {
	for a := range 256 {
		for b := range 256 {
			for _, c := range []int{0, 1, 2, 5, 0x7f, 0x80, 0xff} {
				if row := join(a, b, c, 1, 0); !holds(row) {
					t.Fatalf("%x isn't laid as it was read", row)
				}
			}
		}
	}
	form := Put(nil, dict([]string{"a", "b"}, value.List(value.Bool(true), value.Int(300), value.Str("xy")), value.Mark(unknown(api.Map, api.Str))))
	for i := range form {
		for c := range 256 {
			row := bytes.Clone(form)
			row[i] = byte(c)
			if !holds(row) {
				t.Fatalf("%x isn't laid as it was read", row)
			}
		}
	}
}
