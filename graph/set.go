package graph

import (
	"math/bits"

	"surety/api"
)

const (
	wordShift = 6 // a word has 1<<wordShift bits
	wordMask  = 1<<wordShift - 1
	words     = api.MaxItems >> wordShift
)

// set is a set of nodes, a bit each: being an array it is copied and compared as a number is.
type set [words]uint64

func (s *set) add(i int) {
	s[i>>wordShift] |= 1 << (i & wordMask)
}

func (s *set) has(i int) bool {
	return s[i>>wordShift]>>(i&wordMask)&1 == 1
}

// take adds all of other.
func (s *set) take(other set) {
	for w := range s {
		s[w] |= other[w]
	}
}

// less answers what s has and other hasn't.
func (s set) less(other set) set {
	for w := range s {
		s[w] &^= other[w]
	}
	return s
}

// list answers the nodes rising, in new memory.
func (s set) list() []int {
	var out []int
	for w, word := range s {
		for ; word != 0; word &= word - 1 {
			out = append(out, w<<wordShift+bits.TrailingZeros64(word))
		}
	}
	return out
}
