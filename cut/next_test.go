package cut_test

import (
	"bytes"
	"math"
	"math/big"
	"testing"

	"tallyman/cut"
	"tallyman/roll"
)

// noise makes n bytes that look like chance, and are the same each time.
func noise(n int, seed uint32) []byte {
	b := make([]byte, n)
	for i := range b {
		seed = seed*1103515245 + 12345
		b[i] = byte(seed >> 16)
	}
	return b
}

// window tells a window's sum by the words of chapter 5, in whole numbers.
func window(b []byte) uint64 {
	all, base := new(big.Int), big.NewInt(257)
	for _, c := range b {
		all.Mul(all, base)
		all.Add(all, big.NewInt(int64(c)+1))
	}
	return all.Mod(all, big.NewInt(1<<61-1)).Uint64()
}

// wantNext tells Next's answer by the document's words, end by end.
func wantNext(r cut.Rule, b []byte) int {
	for n := r.Min; n <= r.Max && n <= len(b); n++ {
		if window(b[n-r.Window:n])&r.Mask == r.Want {
			return n
		}
	}
	return min(r.Max, len(b))
}

// rules has Good ones that part often, seldom, always, never.
func rules() []cut.Rule {
	return []cut.Rule{
		cut.Plain(),
		{Min: 1, Max: 4, Window: 1, Mask: 3, Want: 0},
		{Min: 1, Max: 1, Window: 1, Mask: 1, Want: 1},
		{Min: 1, Max: 65536, Window: 1, Mask: 7, Want: 6},
		{Min: 2, Max: 5, Window: 2, Mask: 7, Want: 3},
		{Min: 3, Max: 40, Window: 2, Mask: 3, Want: 1},
		{Min: 9, Max: 10, Window: 9, Mask: 1, Want: 0},
		{Min: 16, Max: 64, Window: 16, Mask: 15, Want: 15},
		{Min: 20, Max: 90, Window: 16, Mask: 1 << 60, Want: 1 << 60},
		{Min: 30, Max: 100, Window: 3, Mask: 0xF0, Want: 0x30},
		{Min: 64, Max: 64, Window: 64, Mask: 1, Want: 0},
		{Min: 64, Max: 200, Window: 64, Mask: 63, Want: 9},
		{Min: 70, Max: 71, Window: 63, Mask: 1, Want: 1},
		{Min: 8, Max: 50, Window: 8, Mask: 0, Want: 0},
		{Min: 8, Max: 50, Window: 8, Mask: 0, Want: 1},
		{Min: 8, Max: 50, Window: 8, Mask: 6, Want: 1},
		{Min: 8, Max: 50, Window: 8, Mask: 7 << 61, Want: 0},
		{Min: 8, Max: 50, Window: 8, Mask: 7 << 61, Want: 1 << 61},
		{Min: 8, Max: 50, Window: 8, Mask: math.MaxUint64, Want: math.MaxUint64},
	}
}

// texts has bytes of many kinds.
func texts() [][]byte {
	return [][]byte{
		nil,
		noise(1000, 1), noise(700, 2), noise(131, 3),
		make([]byte, 400),
		bytes.Repeat([]byte{255}, 400),
		bytes.Repeat([]byte("abcdefghijklmnopqrstuvwxyz"), 12),
		[]byte("the quick brown fox jumps over the lazy dog, and the dog lies down again"),
	}
}

// P6.1: Next by the document's words, of each beginning of many texts.
func TestNext(t *testing.T) {
	for _, r := range rules() {
		for _, b := range texts() {
			for n := 0; n <= len(b) && n <= 210; n++ {
				if got, want := cut.Next(r, b[:n]), wantNext(r, b[:n]); got != want {
					t.Fatalf("Next by %+v of %q: %d, want %d", r, b[:n], got, want)
				}
			}
			for n := 0; n < len(b); n += 13 {
				if got, want := cut.Next(r, b[n:]), wantNext(r, b[n:]); got != want {
					t.Fatalf("Next by %+v of %q: %d, want %d", r, b[n:], got, want)
				}
			}
		}
	}
}

// P6.1: the window's sum is roll's Of.
func TestNextIsOf(t *testing.T) {
	b := noise(500, 9)
	for _, w := range []int{1, 2, 7, 8, 9, 63, 64} {
		for n := 64; n <= 500; n++ {
			s := roll.Of(b[n-w : n])
			r := cut.Rule{Min: 64, Max: 500, Window: w, Mask: math.MaxUint64, Want: s}
			if got := cut.Next(r, b); got > n || roll.Of(b[got-w:got]) != s {
				t.Fatalf("Next by a sum at %d, window %d: %d", n, w, got)
			}
			if got := cut.Next(r, b); w > 2 && got != n {
				t.Fatalf("Next by a sum at %d, window %d: %d", n, w, got)
			}
		}
	}
}

// P6.1: no bytes; fewer than Min; just Min.
func TestNextShort(t *testing.T) {
	always := cut.Rule{Min: 10, Max: 20, Window: 4}
	never := cut.Rule{Min: 10, Max: 20, Window: 4, Want: 1}
	if cut.Next(always, nil) != 0 || cut.Next(always, []byte{}) != 0 || cut.Next(never, nil) != 0 {
		t.Errorf("Next of no bytes: %d", cut.Next(always, nil))
	}
	for n := range 30 {
		b := noise(n, 4)
		if got := cut.Next(always, b); got != min(n, 10) {
			t.Errorf("Next, parted always, of %d bytes: %d", n, got)
		}
		if got := cut.Next(never, b); got != min(n, 20) {
			t.Errorf("Next, parted never, of %d bytes: %d", n, got)
		}
	}
}

// marked makes n bytes in which one alone is an x, the at-th from 1 on.
func marked(n, at int) []byte {
	b := bytes.Repeat([]byte{'.'}, n)
	b[at-1] = 'x'
	return b
}

// P6.1: an end counts from Min to Max, both too, and to where the bytes end.
func TestNextFromMinToMax(t *testing.T) {
	r := cut.Rule{Min: 5, Max: 9, Window: 1, Mask: math.MaxUint64, Want: 'x' + 1}
	for _, n := range []int{5, 6, 8, 9, 10, 30} {
		for at := 1; at <= n; at++ {
			want := min(9, n)
			if 5 <= at && at <= 9 {
				want = at
			}
			if got := cut.Next(r, marked(n, at)); got != want {
				t.Errorf("Next of %d bytes, a mark at %d: %d, want %d", n, at, got, want)
			}
		}
	}
}

// P6.1: of several ends the least, whatever stands ahead of Min.
func TestNextLeast(t *testing.T) {
	r := cut.Rule{Min: 5, Max: 9, Window: 1, Mask: math.MaxUint64, Want: 'x' + 1}
	for _, c := range []struct {
		text string
		want int
	}{
		{"xxxxxxxxxx", 5}, {"xxxx.xxxxx", 6}, {"xxxx......", 9}, {"xxxx...xx.", 8}, {".....x.x.x", 6}, {"xxxx.....x", 9}, {"....x", 5}, {"xxxx", 4}, {"xxxx.", 5},
	} {
		if got := cut.Next(r, []byte(c.text)); got != c.want {
			t.Errorf("Next of %s: %d, want %d", c.text, got, c.want)
		}
	}
}

// P6.1: a whole window of 2 to 64 bytes tells, and no byte ahead of it: at
// Min, too, with none behind Window or some.
func TestNextWindow(t *testing.T) {
	for w := 2; w <= 64; w++ {
		for _, more := range []int{0, 1, 5} {
			b := noise(w+more+40, uint32(w))
			for _, n := range []int{w + more, w + more + 1, w + more + 17} {
				r := cut.Rule{Min: w + more, Max: w + more + 30, Window: w, Mask: math.MaxUint64, Want: roll.Of(b[n-w : n])}
				looksAt(t, r, b, n)
				for i := range n - w {
					other := bytes.Clone(b)
					other[i] ^= 0x55
					looksAt(t, r, other, n)
				}
				for _, i := range []int{n - w, n - 1} {
					other := bytes.Clone(b)
					other[i] ^= 0x55
					looksAt(t, r, other, r.Max)
				}
			}
		}
	}
}

// looksAt sees whether the first piece of b ends at n.
func looksAt(t *testing.T, r cut.Rule, b []byte, n int) {
	t.Helper()
	if got := cut.Next(r, b); got != n {
		t.Errorf("Next by %+v: %d, want %d", r, got, n)
	}
}

// P6.1: Mask says which bits count, each of those that a sum has, and those
// that it has not; Want must be just what is left.
func TestNextMask(t *testing.T) {
	b := noise(40, 6)
	s := roll.Of(b[2:10])
	for i := range 64 {
		bit := uint64(1) << i
		r := cut.Rule{Min: 10, Max: 11, Window: 8, Mask: bit, Want: s & bit}
		looksAt(t, r, b, 10)
		r.Want = ^s & bit
		looksAt(t, r, b, 11)
		r.Mask, r.Want = ^bit, s&^bit
		looksAt(t, r, b, 10)
		r.Want = (s & ^bit) | bit
		looksAt(t, r, b, 11)
		r.Mask, r.Want = math.MaxUint64, s^bit
		looksAt(t, r, b, 11)
	}
	looksAt(t, cut.Rule{Min: 10, Max: 11, Window: 8, Mask: math.MaxUint64, Want: s}, b, 10)
	looksAt(t, cut.Rule{Min: 10, Max: 11, Window: 8, Mask: 0xFF00, Want: s & 0xFF00 >> 8}, b, 11)
}

// P6.1: a sum that comes to 2^61 - 1, or to a multiple, is 0: it is a rest.
func TestNextNought(t *testing.T) {
	b := make([]byte, 8)
	found := false
	for k := int64(1); k <= 8 && !found; k++ {
		v := new(big.Int).SetUint64(roll.Prime)
		found = digits(v.Mul(v, big.NewInt(k)), b)
	}
	if !found {
		t.Fatal("no bytes with the rest 0")
	}
	text := append(append([]byte("ahead"), b...), "behind"...)
	looksAt(t, cut.Rule{Min: 9, Max: 19, Window: 8, Mask: math.MaxUint64, Want: 0}, text, 13)
	looksAt(t, cut.Rule{Min: 9, Max: 19, Window: 8, Mask: math.MaxUint64, Want: roll.Prime}, text, 19)
}

// digits writes bytes whose sum is v before the rest is taken, if just len(b)
// do.
func digits(v *big.Int, b []byte) bool {
	v = new(big.Int).Set(v)
	for i := len(b) - 1; i >= 0; i-- {
		d := new(big.Int)
		v.DivMod(v, big.NewInt(257), d)
		if d.Sign() == 0 {
			return false
		}
		b[i] = byte(d.Int64() - 1)
	}
	return v.Sign() == 0
}

// P6.1: the greatest pieces that may be.
func TestNextGreatest(t *testing.T) {
	b := make([]byte, 70000)
	b[65535] = 'x'
	for _, n := range []int{65534, 65535, 65536, 65537, 70000} {
		looksAt(t, cut.Rule{Min: 1, Max: 65536, Window: 1, Mask: math.MaxUint64, Want: 0}, b[:n], min(n, 65536))
		looksAt(t, cut.Rule{Min: 65536, Max: 65536, Window: 64}, b[:n], min(n, 65536))
		looksAt(t, cut.Rule{Min: 1, Max: 65535, Window: 1, Mask: math.MaxUint64, Want: 'x' + 1}, b[:n], min(n, 65535))
	}
	b[65535], b[65534] = 0, 'x'
	looksAt(t, cut.Rule{Min: 1, Max: 65536, Window: 1, Mask: math.MaxUint64, Want: 'x' + 1}, b, 65535)
}
