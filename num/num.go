// Package num is layer 1: numbers that tell when they are too great, as bytes and as texts.
package num

import (
	"math"
	"strconv"

	"surety/api"
)

// mostShort is how many bytes a short form has at most: nine sevens of bits don't hold 64, ten do.
const mostShort = 10

// Add is the sum.
func Add(a, b int64) (int64, api.Errno) {
	s := a + b
	// A sum wrapped if its sign is neither number's.
	if below((a^s)&(b^s)) != 0 {
		return 0, api.ErrOver
	}
	return s, api.OK
}

// Sub is the difference.
func Sub(a, b int64) (int64, api.Errno) {
	d := a - b
	// A difference wrapped if the signs differ, and it lost that of a.
	if below((a^b)&(a^d)) != 0 {
		return 0, api.ErrOver
	}
	return d, api.OK
}

// Mul is the product.
func Mul(a, b int64) (int64, api.Errno) {
	p, over := product(size(a), size(b))
	if over {
		return 0, api.ErrOver
	}
	return signed(p, below(a^b))
}

// Div is the quotient, towards 0.
func Div(a, b int64) (int64, api.Errno) {
	if b == 0 {
		return 0, api.ErrZero
	}
	return signed(size(a)/size(b), below(a^b))
}

// Mod is what is left behind Div: its sign is that of a.
func Mod(a, b int64) (int64, api.Errno) {
	if b == 0 {
		return 0, api.ErrZero
	}
	return signed(size(a)%size(b), below(a))
}

// Neg is the number on the other side of 0.
func Neg(a int64) (int64, api.Errno) {
	return signed(size(a), 1-below(a))
}

// below is 1 for a number below 0, else 0.
func below(n int64) uint64 { return uint64(n) >> 63 }

// size is how far a number is from 0: it goes where the least number's own negation wouldn't.
func size(n int64) uint64 {
	flip := uint64(n >> 63)
	return (uint64(n) ^ flip) - flip
}

// signed is the number of a size, below 0 if minus is 1. One more size goes below 0 than above it.
func signed(size, minus uint64) (int64, api.Errno) {
	if size > math.MaxInt64+minus {
		return 0, api.ErrOver
	}
	flip := -minus
	return int64((size ^ flip) - flip), api.OK
}

// product multiplies by halves, so that nothing wraps unseen.
func product(x, y uint64) (p uint64, over bool) {
	xh, xl := x>>32, uint64(uint32(x))
	yh, yl := y>>32, uint64(uint32(y))
	if xh != 0 && yh != 0 {
		return 0, true
	}
	// One of both is 0, so their sum doesn't wrap.
	middle := xh*yl + yh*xl
	if middle>>32 != 0 {
		return 0, true
	}
	p = middle<<32 + xl*yl
	return p, p < middle<<32
}

// PutShort lays n's short form behind b.
func PutShort(b []byte, n uint64) []byte {
	out := fresh(b, mostShort)
	for ; n>>7 != 0; n >>= 7 {
		out = append(out, byte(n)|0x80)
	}
	return append(out, byte(n))
}

// GetShort reads the short form that b begins with.
func GetShort(b []byte) (n uint64, used int, e api.Errno) {
	for i := range mostShort {
		if i == len(b) {
			return 0, 0, api.ErrShort
		}
		c := b[i]
		// The bytes ahead of the last one hold 63 bits: there is room for one more.
		if i == mostShort-1 && c > 1 {
			return 0, 0, api.ErrForm
		}
		n |= uint64(c&0x7f) << (7 * i)
		if c>>7 != 0 {
			continue
		}
		if c == 0 && i > 0 {
			return 0, 0, api.ErrForm
		}
		return n, i + 1, api.OK
	}
	return 0, 0, api.ErrForm
}

// Put lays the form of a width of n behind b.
func Put(b []byte, n uint64, width int) []byte {
	if !isWidth(width) {
		return fresh(b, 0)
	}
	out := fresh(b, width)
	for i := range width {
		out = append(out, byte(n>>(8*(width-1-i))))
	}
	return out
}

// Get reads the form of a width that b begins with.
func Get(b []byte, width int) (uint64, api.Errno) {
	if !isWidth(width) {
		return 0, api.ErrArg
	}
	if len(b) < width {
		return 0, api.ErrShort
	}
	var n uint64
	for i := range width {
		n = n<<8 | uint64(b[i])
	}
	return n, api.OK
}

func isWidth(width int) bool { return width >= 1 && width <= 8 }

// fresh is a copy of b with room behind it: what is laid there is never laid into b's own room.
func fresh(b []byte, room int) []byte {
	out := make([]byte, len(b), len(b)+room)
	copy(out, b)
	return out
}

// Zig is the zigzag of n: small for numbers near 0 on both sides.
func Zig(n int64) uint64 { return uint64(n)<<1 ^ uint64(n>>63) }

// Zag is the number whose zigzag n is.
func Zag(n uint64) int64 { return int64(n>>1) ^ -int64(n&1) }

// Print is n's text.
func Print(n int64) string { return strconv.FormatInt(n, 10) }

// Parse is the number whose text s is.
func Parse(s string) (int64, api.Errno) {
	digits, minus := s, uint64(0)
	if len(s) > 0 && s[0] == '-' {
		digits, minus = s[1:], 1
	}
	if !isText(digits, minus) {
		return 0, api.ErrForm
	}
	// Nineteen digits go into 64 bits; the greatest size has no more.
	if len(digits) > 19 {
		return 0, api.ErrOver
	}
	var n uint64
	for i := range len(digits) {
		n = n*10 + uint64(digits[i]-'0')
	}
	return signed(n, minus)
}

// isText tells whether these are a number's digits: 0 is alone, and has no sign.
func isText(digits string, minus uint64) bool {
	if digits == "" || digits[0] == '0' && (len(digits) > 1 || minus != 0) {
		return false
	}
	for i := range len(digits) {
		if digits[i] < '0' || digits[i] > '9' {
			return false
		}
	}
	return true
}
