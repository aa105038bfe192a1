package roll_test

import (
	"math"
	"math/big"
	"testing"

	"tallyman/roll"
)

// slid tells Slide's answer by the document's words, in whole numbers.
func slid(s uint64, out, in byte, w int) uint64 {
	v, first := new(big.Int).SetUint64(s), big.NewInt(int64(out)+1)
	v.Sub(v, first.Mul(first, far(w-1)))
	v.Mul(v, far(1))
	return rest(v.Add(v, big.NewInt(int64(in)+1)))
}

// sums has rests, and numbers that are none.
func sums() []uint64 {
	l := []uint64{0, 1, 2, 97, 98, 256, 257, 258, 66049, 1 << 32, math.MaxInt64, math.MaxInt64 + 1, math.MaxUint64 - 1, math.MaxUint64, 0xCBF43926CBF43926}
	for k := uint64(1); k <= 8; k++ {
		l = append(l, k*roll.Prime-2, k*roll.Prime-1, k*roll.Prime, k*roll.Prime+1, k*roll.Prime+2)
	}
	for i := range 64 {
		l = append(l, 1<<i)
	}
	return l
}

// P5.1: Slide is Of of the window one further, of each width.
func TestSlide(t *testing.T) {
	b := pattern(200)
	for w := 1; w <= 64; w++ {
		s := roll.Of(b[:w])
		for i := range len(b) - w {
			s = roll.Slide(s, b[i], b[i+w], w)
			if there := b[i+1 : i+1+w]; s != roll.Of(there) || s != want(there) {
				t.Fatalf("Slide of width %d, number %d: %d, want %d", w, i, s, want(there))
			}
		}
	}
}

// P5.1: Slide is what Add tells.
func TestSlideIsAdd(t *testing.T) {
	b := pattern(150)
	for _, w := range widths() {
		r := roll.New(w.asked)
		for _, c := range b[:w.held] {
			r.Add(c)
		}
		for i, c := range b[w.held:] {
			slid := roll.Slide(r.Sum(), b[i], c, w.asked)
			if got := r.Add(c); got != slid {
				t.Fatalf("width %d, number %d: Slide %d, Add %d", w.asked, i, slid, got)
			}
		}
	}
}

// P5.1: w is held to 1 to 64.
func TestSlideHeld(t *testing.T) {
	for _, w := range widths() {
		for _, s := range []uint64{0, 98, roll.Prime - 1, math.MaxUint64} {
			if got := roll.Slide(s, 'a', 'b', w.asked); got != slid(s, 'a', 'b', w.held) {
				t.Errorf("Slide(%d, a, b, %d): %d, want %d", s, w.asked, got, slid(s, 'a', 'b', w.held))
			}
		}
	}
}

// P5.1: by reckoning alone: any s, by its rest, whatever out was.
func TestSlideAnySum(t *testing.T) {
	for _, s := range sums() {
		for _, w := range []int{1, 2, 7, 8, 9, 32, 63, 64} {
			for _, out := range []byte{0, 1, 97, 255} {
				for _, in := range []byte{0, 98, 255} {
					got := roll.Slide(s, out, in, w)
					if got != slid(s, out, in, w) {
						t.Errorf("Slide(%d, %d, %d, %d): %d, want %d", s, out, in, w, got, slid(s, out, in, w))
					}
					if got != roll.Slide(s%roll.Prime, out, in, w) {
						t.Errorf("Slide(%d, ..) is not Slide of its rest", s)
					}
				}
			}
		}
	}
}

// P5.1: every byte that goes, and every one that comes.
func TestSlideEveryByte(t *testing.T) {
	for out := range 256 {
		for in := range 256 {
			for _, w := range []int{1, 8, 64} {
				const s = 1234567890123456789
				got := roll.Slide(s, byte(out), byte(in), w)
				if got != slid(s, byte(out), byte(in), w) {
					t.Fatalf("Slide with %d out, %d in, width %d: %d", out, in, w, got)
				}
			}
			if got := roll.Slide(uint64(out)+1, byte(out), byte(in), 1); got != uint64(in)+1 {
				t.Fatalf("Slide with %d out, %d in, width 1: %d", out, in, got)
			}
		}
	}
}

// P5.1: a sum that comes to Prime, or to a multiple, is told as 0.
func TestSlideNothings(t *testing.T) {
	for _, b := range nothings(t) {
		w := len(b)
		ahead := append([]byte{'x'}, b[:w-1]...)
		if got := roll.Slide(roll.Of(ahead), 'x', b[w-1], w); got != 0 {
			t.Errorf("Slide to %x: %d, want 0", b, got)
		}
		if got := roll.Slide(0, b[0], 'y', w); got != want(append(b[1:], 'y')) {
			t.Errorf("Slide from %x: %d", b, got)
		}
	}
}
