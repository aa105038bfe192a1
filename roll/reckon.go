package roll

import "math/bits"

// base is what a byte is taken times for each byte behind it.
const base = 257

// primeBits is how many bits a rest has.
const primeBits = 61

// with tells a sum with a byte behind.
func with(s uint64, c byte) uint64 {
	return plus(times(s, base), digit(c))
}

// without tells a sum without its first byte, far being what that one is
// taken times.
func without(s uint64, c byte, far uint64) uint64 {
	return plus(s, Prime-times(digit(c), far))
}

// digit tells what a byte counts: never 0, so that noughts ahead count too.
func digit(c byte) uint64 { return uint64(c) + 1 }

// plus puts two rests together; one of them may be Prime itself.
func plus(a, b uint64) uint64 {
	s := a + b
	if s >= Prime {
		s -= Prime
	}
	return s
}

// times takes two rests times each other. 2^61 counts as 1 here, so that the
// bits from there on are put to those below.
func times(a, b uint64) uint64 {
	high, low := bits.Mul64(a, b)
	return plus(high<<(64-primeBits)|low>>primeBits, low&Prime)
}

// power takes base times itself, n times in all, by squares.
func power(n int) uint64 {
	all, square := uint64(1), uint64(base)
	for ; n > 0; n >>= 1 {
		if n&1 == 1 {
			all = times(all, square)
		}
		square = times(square, square)
	}
	return all
}
