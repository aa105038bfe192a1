package poly_test

import (
	"hash/crc32"
	"math"
	"testing"

	"tallyman/poly"
)

// turn takes a rest, and tells what it comes to when a nought bit comes
// behind.
func turn(c uint32) uint32 {
	if c&1 == 1 {
		return c>>1 ^ crc32.IEEE
	}
	return c >> 1
}

// board has for each bit of a rest what it comes to.
type board [32]uint32

// of puts what a rest's bits come to together.
func (m *board) of(c uint32) uint32 {
	var all uint32
	for i, row := range m {
		if c>>i&1 == 1 {
			all ^= row
		}
	}
	return all
}

// twice tells what the bits come to when it is done two times.
func (m *board) twice() board {
	var two board
	for i, row := range m {
		two[i] = m.of(row)
	}
	return two
}

// joined tells Join's answer in another way: the step of one byte is a board,
// and steps that are done two times, four times .. are boards, too.
func joined(a, b uint32, n int64) uint32 {
	var step board
	for i := range step {
		step[i] = uint32(1) << i
		for range 8 {
			step[i] = turn(step[i])
		}
	}
	for ; n > 0; n >>= 1 {
		if n&1 == 1 {
			a = step.of(a)
		}
		step = step.twice()
	}
	return a ^ b
}

// P3.1: Join is Of of both, wherever they part.
func TestJoin(t *testing.T) {
	for _, size := range []int{0, 1, 2, 9, 64, 300} {
		b := pattern(size)
		for i := range len(b) + 1 {
			got := poly.Join(poly.Of(b[:i]), poly.Of(b[i:]), int64(len(b)-i))
			if got != crc32.ChecksumIEEE(b) {
				t.Errorf("Join of %d bytes, parted at %d: %08x", size, i, got)
			}
		}
	}
	b := pattern(1<<20 + 77)
	for _, i := range []int{1, 77, 65536, 1<<20 - 1, 1 << 20} {
		got := poly.Join(poly.Of(b[:i]), poly.Of(b[i:]), int64(len(b)-i))
		if got != crc32.ChecksumIEEE(b) {
			t.Errorf("Join of %d bytes, parted at %d: %08x", len(b), i, got)
		}
	}
	if got := poly.Join(poly.Of([]byte("12345")), poly.Of([]byte("6789")), 4); got != 0xCBF43926 {
		t.Errorf("Join: %08x", got)
	}
}

// P3.1: by reckoning alone: of n 0, and of one below: a and b put together by
// exclusive or, whatever b is.
func TestJoinOfNothing(t *testing.T) {
	for _, n := range []int64{0, -1, -2, -8, -1 << 32, math.MinInt64, math.MinInt64 + 1} {
		for _, a := range numbers() {
			for _, b := range numbers() {
				if got := poly.Join(a, b, n); got != a^b {
					t.Errorf("Join(%08x, %08x, %d): %08x", a, b, n, got)
				}
			}
		}
	}
}

// P3.1: n counts whole, as great as it may be, and rests may be any.
func TestJoinFar(t *testing.T) {
	far := []int64{1, 2, 3, 4, 5, 255, 256, 1 << 16, 1<<29 - 1, 1 << 29, math.MaxInt32, math.MaxUint32 - 1,
		math.MaxUint32, math.MaxUint32 + 1, 1 << 33, 1<<60 - 1, 1 << 60, 1 << 61, 1 << 62, 1<<62 + 1, math.MaxInt64 - 1, math.MaxInt64}
	for _, n := range far {
		for i, a := range numbers() {
			b := numbers()[len(numbers())-1-i]
			if got := poly.Join(a, b, n); got != joined(a, b, n) {
				t.Errorf("Join(%08x, %08x, %d): %08x, want %08x", a, b, n, got, joined(a, b, n))
			}
		}
	}
}

// P3.1: each bit of n.
func TestJoinBits(t *testing.T) {
	const a, b = 0xCBF43926, 0x352441C2
	for i := range 63 {
		n := int64(1) << i
		if got := poly.Join(a, b, n); got != joined(a, b, n) {
			t.Errorf("Join of %d bytes behind: %08x", n, got)
		}
		if got := poly.Join(a, 0, n); i < 62 && poly.Join(got, 0, n) != poly.Join(a, 0, 2*n) {
			t.Errorf("Join of %d bytes behind, two times", n)
		}
	}
}

// P3.1: noughts that are counted are noughts that come.
func TestJoinOfNoughts(t *testing.T) {
	noughts := make([]byte, 1000)
	for _, n := range []int{1, 4, 31, 1000} {
		got := poly.Join(0xCBF43926, poly.Of(noughts[:n]), int64(n))
		if want := poly.On(0xCBF43926, noughts[:n]); got != want {
			t.Errorf("Join of %d noughts: %08x, want %08x", n, got, want)
		}
	}
}
