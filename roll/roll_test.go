package roll_test

import (
	"bytes"
	"math"
	"testing"

	"tallyman/roll"
)

// width is a width that is asked for, and what it is held to.
type width struct{ asked, held int }

// widths has each that may be, and some that may not.
func widths() []width {
	l := []width{
		{math.MinInt, 1}, {math.MinInt + 1, 1}, {math.MinInt32, 1}, {-64, 1}, {-1, 1}, {0, 1},
		{65, 64}, {66, 64}, {127, 64}, {128, 64}, {256, 64}, {257, 64}, {1 << 32, 64}, {1<<32 + 5, 64}, {math.MaxInt - 1, 64}, {math.MaxInt, 64},
	}
	for w := 1; w <= 64; w++ {
		l = append(l, width{w, w})
	}
	return l
}

// last tells b's last w bytes, or all.
func last(b []byte, w int) []byte { return b[max(0, len(b)-w):] }

// looks sees whether r has just the bytes b.
func looks(t *testing.T, r *roll.Roll, b []byte, what string) {
	t.Helper()
	if got := r.Sum(); got != want(b) {
		t.Errorf("%s: Sum of %d bytes: %d, want %d", what, len(b), got, want(b))
	}
	if got := r.Len(); got != len(b) {
		t.Errorf("%s: Len: %d, want %d", what, got, len(b))
	}
}

// P5.1: Add, Sum and Len, byte by byte, while the window fills and behind, of
// each width.
func TestAdd(t *testing.T) {
	b := pattern(210)
	for _, w := range widths() {
		r := roll.New(w.asked)
		looks(t, r, nil, "a new one")
		for i, c := range b {
			there := last(b[:i+1], w.held)
			if got := r.Add(c); got != want(there) {
				t.Fatalf("New(%d), Add number %d: %d, want %d", w.asked, i, got, want(there))
			}
			looks(t, r, there, "behind Add")
		}
	}
}

// P5.1: the greatest and the least bytes: sums that go round, bytes that are 0.
func TestAddEnds(t *testing.T) {
	for _, w := range []int{1, 2, 3, 7, 8, 9, 16, 63, 64} {
		b := bytes.Repeat([]byte{255}, 70)
		b = append(b, make([]byte, 70)...)
		b = append(b, bytes.Repeat([]byte{255, 0}, 70)...)
		r := roll.New(w)
		for i, c := range b {
			if got := r.Add(c); got != want(last(b[:i+1], w)) {
				t.Fatalf("New(%d), Add number %d: %d", w, i, got)
			}
		}
	}
}

// P5.1: each byte that comes in, and each that goes.
func TestAddEveryByte(t *testing.T) {
	for out := range 256 {
		for _, in := range []byte{0, 1, 31, 97, 127, 128, 254, 255} {
			for _, w := range []int{1, 2, 64} {
				b := append([]byte{byte(out)}, pattern(w)...)
				b[w] = in
				r := roll.New(w)
				for _, c := range b {
					r.Add(c)
				}
				looks(t, r, b[1:], "one went")
			}
		}
	}
}

// P5.1: a window whose sum is Prime, or a multiple, tells 0, and goes on.
func TestAddNothings(t *testing.T) {
	for _, b := range nothings(t) {
		r := roll.New(len(b))
		for _, c := range append(pattern(9), b...) {
			r.Add(c)
		}
		if r.Sum() != 0 || r.Len() != len(b) {
			t.Errorf("Sum of %x: %d of %d", b, r.Sum(), r.Len())
		}
		if got := r.Add('a'); got != want(append(b[1:], 'a')) {
			t.Errorf("Add behind %x: %d", b, got)
		}
	}
}

// P5.1: it does not stray, however long it moves.
func TestAddLong(t *testing.T) {
	for _, w := range []int{1, 8, 64} {
		r, b := roll.New(w), pattern(300000)
		for i, c := range b {
			got := r.Add(c)
			if got >= roll.Prime {
				t.Fatalf("New(%d), Add number %d: no rest: %d", w, i, got)
			}
			if i%997 == 0 && (got != want(last(b[:i+1], w)) || r.Len() != min(i+1, w)) {
				t.Fatalf("New(%d), Add number %d: %d", w, i, got)
			}
		}
	}
}

// P5.1: Reset leaves none, wherever the window stood, and its width as it was.
func TestReset(t *testing.T) {
	b := pattern(200)
	for _, w := range []width{{-3, 1}, {0, 1}, {1, 1}, {2, 2}, {5, 5}, {8, 8}, {63, 63}, {64, 64}, {99, 64}} {
		for _, n := range []int{0, 1, 2, 4, 5, 6, 63, 64, 65, 130} {
			r := roll.New(w.asked)
			for _, c := range b[:n] {
				r.Add(c)
			}
			r.Reset()
			looks(t, r, nil, "behind Reset")
			for i, c := range b[50:] {
				there := last(b[50:51+i], w.held)
				if got := r.Add(c); got != want(there) || r.Len() != len(there) {
					t.Fatalf("New(%d), Reset behind %d, Add number %d: %d of %d", w.asked, n, i, got, r.Len())
				}
			}
			r.Reset()
			r.Reset()
			looks(t, r, nil, "behind two")
		}
	}
}

// R5: two windows do not know of each other, and asking changes nothing.
func TestRollsAlone(t *testing.T) {
	b := pattern(100)
	first, second := roll.New(8), roll.New(8)
	for i, c := range b {
		first.Add(c)
		second.Add(^c)
		roll.Of(b)
		roll.Slide(first.Sum(), c, c, 8)
		looks(t, first, last(b[:i+1], 8), "the first")
		looks(t, first, last(b[:i+1], 8), "the first, asked again")
	}
	second.Reset()
	looks(t, first, last(b, 8), "the other one was emptied")
	looks(t, second, nil, "emptied")
}
