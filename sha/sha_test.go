package sha

import (
	"bytes"
	"crypto/sha256"
	"encoding/hex"
	"strings"
	"testing"

	"surety/api"
)

// some bytes, of any length, in which no block is like another.
func some(n int) []byte {
	b := make([]byte, n)
	x := uint32(n) + 1
	for i := range b {
		x = x*1664525 + 1013904223
		b[i] = byte(x >> 24)
	}
	return b
}

// P2.1: fingerprints that are published.
func TestSumPublished(t *testing.T) {
	for _, x := range []struct{ text, want string }{
		{"", "e3b0c44298fc1c149afbf4c8996fb92427ae41e4649b934ca495991b7852b855"},
		{"abc", "ba7816bf8f01cfea414140de5dae2223b00361a396177a9cb410ff61f20015ad"},
		{"abcdbcdecdefdefgefghfghighijhijkijkljklmklmnlmnomnopnopq", "248d6a61d20638b8e5c026930c3e6039a33ce45964ff2167f6ecedd419db06c1"},
		{"abcdefghbcdefghicdefghijdefghijkefghijklfghijklmghijklmnhijklmnoijklmnopjklmnopqklmnopqrlmnopqrsmnopqrstnopqrstu", "cf5b16a778af8380036ce59e7b0492370b249b11e8f07a51afac45037afee9d1"},
		{strings.Repeat("a", 1000000), "cdc76e5c9914fb9281a1c7e284d73e67f1809a48a497200e046d39ccc7112cd0"},
	} {
		if h := Hex(Sum([]byte(x.text))); h != x.want {
			t.Errorf("%d bytes: %s; want %s", len(x.text), h, x.want)
		}
	}
}

// P2.1: each length around the ends of some blocks, held against the library's SHA-256.
func TestSumEachLength(t *testing.T) {
	for n := range 330 {
		b := some(n)
		if s := Sum(b); s != sha256.Sum256(b) {
			t.Fatalf("%d bytes: %s", n, Hex(s))
		}
	}
	for _, n := range []int{4095, 4096, 4097, 1 << 18} {
		b := some(n)
		if Sum(b) != sha256.Sum256(b) {
			t.Fatalf("%d bytes", n)
		}
	}
	for _, c := range []byte{0, 0x80, 0xff} {
		for n := range 130 {
			b := bytes.Repeat([]byte{c}, n)
			if Sum(b) != sha256.Sum256(b) {
				t.Fatalf("%d bytes %x", n, c)
			}
		}
	}
}

// P2.1: parts are one behind the other, wherever one ends; there may be none.
func TestSumParts(t *testing.T) {
	none := api.Sum(sha256.Sum256(nil))
	if Sum() != none || Sum(nil) != none || Sum(nil, []byte{}, nil) != none {
		t.Fatal("no bytes")
	}
	b := some(150)
	want := api.Sum(sha256.Sum256(b))
	for i := range len(b) + 1 {
		if Sum(b[:i], b[i:]) != want {
			t.Fatalf("parts at %d", i)
		}
		if Sum(b[:i/2], nil, b[i/2:i], b[i:], []byte{}) != want {
			t.Fatalf("parts at %d and %d", i/2, i)
		}
	}
	if Sum(b[75:], b[:75]) == want {
		t.Fatal("the parts' order doesn't count")
	}
}

// P2.1: nothing that is handed in is changed, and no room behind it is read or laid into.
func TestSumLeavesAlone(t *testing.T) {
	whole := some(100)
	kept := bytes.Clone(whole)
	parts := make([][]byte, 2, 3)
	parts[0], parts[1] = whole[:30], whole[40:60]
	parts[:3][2] = []byte("behind")
	s := Sum(parts...)
	if !bytes.Equal(whole, kept) || len(parts[0]) != 30 || len(parts[1]) != 20 || string(parts[:3][2]) != "behind" {
		t.Fatal("changed")
	}
	if want := sha256.Sum256(append(bytes.Clone(kept[:30]), kept[40:60]...)); s != want {
		t.Fatal("the room was read")
	}
	w := New()
	w.Write(whole[:30])
	w.Sum()
	if !bytes.Equal(whole, kept) {
		t.Fatal("changed by a Writer")
	}
}

// P2.1: Hex has two small digits for each byte, and Unhex goes back.
func TestHex(t *testing.T) {
	for c := range 256 {
		for _, at := range []int{0, 1, 17, 31} {
			var s api.Sum
			s[at] = byte(c)
			h := Hex(s)
			if h != hex.EncodeToString(s[:]) {
				t.Fatalf("byte %x at %d: %s", c, at, h)
			}
			if back, e := Unhex(h); back != s || e != api.OK {
				t.Fatalf("%s: %x, %d", h, back, e)
			}
		}
	}
	s := Sum(some(7))
	if h := Hex(s); len(h) != 64 || h != hex.EncodeToString(s[:]) {
		t.Fatal(h)
	}
}

// P2.1: every text that no fingerprint has as its Hex.
func TestUnhexWrong(t *testing.T) {
	good := Hex(Sum([]byte("abc")))
	wrong := []string{
		"", "a", good[:63], good[:62], good + "0", good + "00", good + good, "0x" + good[2:], " " + good[1:], good[:63] + "\n",
		strings.ToUpper(good), strings.Repeat("é", 32), strings.Repeat("0", 31), strings.Repeat("0", 32),
	}
	for _, x := range wrong {
		if s, e := Unhex(x); s != (api.Sum{}) || e != api.ErrForm {
			t.Errorf("%q: %x, %d", x, s, e)
		}
	}
	for c := range 256 {
		isDigit := strings.IndexByte("0123456789abcdef", byte(c)) >= 0
		for at := range 64 {
			b := []byte(strings.Repeat("7", 64))
			b[at] = byte(c)
			s, e := Unhex(string(b))
			if isDigit != (e == api.OK) || !isDigit && (e != api.ErrForm || s != (api.Sum{})) {
				t.Fatalf("byte %x at %d: %x, %d", c, at, s, e)
			}
		}
	}
}

// P2.1: Short has the first 8 bytes, the greatest ahead, and none behind them.
func TestShort(t *testing.T) {
	for _, x := range []struct {
		s    api.Sum
		want uint64
	}{
		{api.Sum{}, 0},
		{api.Sum{7: 1}, 1},
		{api.Sum{0: 1}, 1 << 56},
		{api.Sum{1, 2, 3, 4, 5, 6, 7, 8, 9, 10}, 0x0102030405060708},
		{api.Sum{255, 255, 255, 255, 255, 255, 255, 255}, 1<<64 - 1},
		{api.Sum{0: 0x80}, 1 << 63},
		{api.Sum{8: 255, 31: 255}, 0},
		{Sum([]byte("abc")), 0xba7816bf8f01cfea},
	} {
		if n := Short(x.s); n != x.want {
			t.Errorf("%x: %x; want %x", x.s, n, x.want)
		}
	}
}

// Fingerprints are keys of maps: two of the same bytes are one key.
func TestSumIsKey(t *testing.T) {
	seen := map[api.Sum]int{}
	for i := range 200 {
		seen[Sum(some(i%100))] += i
	}
	if len(seen) != 100 || seen[Sum(some(3))] != 3+103 {
		t.Fatal(len(seen))
	}
}

// P2.2: whatever pieces it comes in, and Sum and Len behind each of them.
func TestWriterPieces(t *testing.T) {
	b := some(400)
	for _, size := range []int{1, 2, 3, 7, 55, 56, 57, 63, 64, 65, 119, 127, 128, 129, 399, 400} {
		w := New()
		for at := 0; at < len(b); at += size {
			end := min(at+size, len(b))
			w.Write(b[at:end])
			if w.Len() != uint64(end) {
				t.Fatalf("pieces of %d: Len %d at %d", size, w.Len(), end)
			}
			for range 2 {
				if w.Sum() != sha256.Sum256(b[:end]) {
					t.Fatalf("pieces of %d: Sum at %d", size, end)
				}
			}
		}
	}
}

// P2.2: a Writer that took nothing, made by New or not, and one that takes no bytes.
func TestWriterOfNothing(t *testing.T) {
	none := api.Sum(sha256.Sum256(nil))
	for _, w := range []*Writer{New(), {}} {
		if w.Len() != 0 || w.Sum() != none {
			t.Fatal("nothing taken")
		}
		w.Write(nil)
		w.Write([]byte{})
		if w.Len() != 0 || w.Sum() != none {
			t.Fatal("no bytes taken")
		}
		w.Write([]byte("abc"))
		w.Write(nil)
		if w.Len() != 3 || w.Sum() != Sum([]byte("abc")) {
			t.Fatal("behind no bytes")
		}
	}
}

// P2.2: of a nil *Writer.
func TestWriterNil(t *testing.T) {
	var w *Writer
	for range 2 {
		if w.Len() != 0 || w.Sum() != sha256.Sum256(nil) {
			t.Fatal(w.Len(), Hex(w.Sum()))
		}
		w.Write(some(100))
	}
}

// P2.2: it keeps what bytes were when it took them, and two Writers share nothing.
func TestWriterKeepsItsOwn(t *testing.T) {
	b := some(90)
	kept := bytes.Clone(b)
	v, w := New(), New()
	w.Write(b)
	clear(b)
	if w.Sum() != sha256.Sum256(kept) {
		t.Fatal("it hangs on what was handed in")
	}
	v.Write([]byte("abc"))
	copied := *w
	copied.Write([]byte("more"))
	if w.Len() != 90 || w.Sum() != sha256.Sum256(kept) || v.Sum() != Sum([]byte("abc")) {
		t.Fatal("it hangs on another Writer")
	}
	if copied.Sum() != Sum(kept, []byte("more")) {
		t.Fatal("a copy")
	}
}
