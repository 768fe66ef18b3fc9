package regex

import "math/bits"

// set holds numbers from 0 to 255: bytes, or places of a pattern, of which there are no more than MaxText.
type set [4]uint64

func (s set) has(k int) bool { return s[k/64]>>(k%64)&1 == 1 }

func (s *set) add(k int) { s[k/64] |= 1 << (k % 64) }

func (s set) with(o set) set {
	for k := range s {
		s[k] |= o[k]
	}
	return s
}

func (s set) not() set {
	for k := range s {
		s[k] = ^s[k]
	}
	return s
}

func (s set) each(do func(k int)) {
	for k, word := range s {
		for ; word != 0; word &= word - 1 {
			do(64*k + bits.TrailingZeros64(word))
		}
	}
}

func one(c byte) set {
	var s set
	s.add(int(c))
	return s
}
