package tab

import "math/bits"

// wordBits is how many bits a number has.
const wordBits = 64

// set is parts of a formula, each a bit of a number; of as many numbers as the formula has parts for.
type set []uint64

// newSet is an empty set of so many parts.
func newSet(parts int) set { return make(set, (parts+wordBits-1)/wordBits) }

func (s set) has(part int) bool { return s[part/wordBits]>>(part%wordBits)&1 == 1 }

func (s set) add(part int) { s[part/wordBits] |= 1 << (part % wordBits) }

func (s set) drop(part int) { s[part/wordBits] &^= 1 << (part % wordBits) }

// first is the least part of the set, or below 0.
func (s set) first() int {
	for i, x := range s {
		if x != 0 {
			return i*wordBits + bits.TrailingZeros64(x)
		}
	}
	return -1
}

// parts are the parts of the set, rising.
func (s set) parts() []int {
	var out []int
	for i, x := range s {
		for ; x != 0; x &= x - 1 {
			out = append(out, i*wordBits+bits.TrailingZeros64(x))
		}
	}
	return out
}

// key is a text that other sets don't have.
func (s set) key() string {
	b := make([]byte, 0, len(s)*wordBits/8)
	for _, x := range s {
		for down := 0; down < wordBits; down += 8 {
			b = append(b, byte(x>>down))
		}
	}
	return string(b)
}
