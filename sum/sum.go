// Package sum: bytes to thirty-two: see DOC.md, chapter 1.
package sum

import "bytes"

// Sum is SHA-256's.
type Sum [32]byte

// digits are those of base sixteen, small.
const digits = "0123456789abcdef"

// words is how many words of eight bytes a sum has.
const words = 4

// Of tells the sum of bytes.
func Of(b ...[]byte) Sum {
	h := begin()
	for _, p := range b {
		h.add(p)
	}
	return h.end()
}

// Text writes one.
func (s Sum) Text() string {
	t := make([]byte, 0, 2*len(s))
	for _, c := range s {
		t = append(t, digits[c>>4], digits[c&15])
	}
	return string(t)
}

// Parse reads one.
func Parse(t string) (Sum, bool) {
	var s Sum
	if len(t) != 2*len(s) {
		return Sum{}, false
	}
	for i := range s {
		high, okHigh := digit(t[2*i])
		low, okLow := digit(t[2*i+1])
		if !okHigh || !okLow {
			return Sum{}, false
		}
		s[i] = high<<4 | low
	}
	return s, true
}

// digit tells what a digit of base sixteen counts.
func digit(c byte) (byte, bool) {
	switch {
	case '0' <= c && c <= '9':
		return c - '0', true
	case 'a' <= c && c <= 'f':
		return c - 'a' + 10, true
	}
	return 0, false
}

// Cmp compares two.
func (s Sum) Cmp(o Sum) int { return bytes.Compare(s[:], o[:]) }

// Xor puts two together.
func (s Sum) Xor(o Sum) Sum {
	for i := range s {
		s[i] ^= o[i]
	}
	return s
}

// Zero tells whether there is nothing in it.
func (s Sum) Zero() bool { return s == Sum{} }

// Word tells eight bytes as a number.
func (s Sum) Word(i int) uint64 {
	if i < 0 || i >= words {
		return 0
	}
	var v uint64
	for j := 7; j >= 0; j-- {
		v = v<<8 | uint64(s[8*i+j])
	}
	return v
}
