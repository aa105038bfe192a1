package sum_test

import (
	"bytes"
	"encoding/hex"
	"math"
	"strings"
	"testing"

	"tallyman/sum"
)

// rising has the bytes first, first and step, and so on.
func rising(first, step byte) sum.Sum {
	var s sum.Sum
	for i := range s {
		s[i] = first + step*byte(i)
	}
	return s
}

// P1.1: 64 small digits, the upper one of each byte first.
func TestText(t *testing.T) {
	for first := range 256 {
		s := rising(byte(first), 37)
		if got := s.Text(); got != hex.EncodeToString(s[:]) {
			t.Errorf("Text of %x: %s", s[:], got)
		}
	}
	if got := (sum.Sum{}).Text(); got != strings.Repeat("0", 64) {
		t.Errorf("Text of noughts: %s", got)
	}
	if got := (sum.Sum{0x01, 0xa0}).Text(); got != "01a0"+strings.Repeat("0", 60) {
		t.Errorf("Text: %s", got)
	}
}

// P1.1: Parse is the way back from Text.
func TestParse(t *testing.T) {
	for first := range 256 {
		s := rising(byte(first), 37)
		if got, ok := sum.Parse(s.Text()); !ok || got != s {
			t.Errorf("Parse of %s: %x, %v", s.Text(), got[:], ok)
		}
	}
}

// P1.1, R2: what is not just such a text: false, and a sum of noughts.
func TestParseRefuses(t *testing.T) {
	good := strings.Repeat("0123456789abcdef", 4)
	texts := []string{
		"", "0", good[:62], good[:63], good + "0", good + "00", good + good,
		" " + good, good + " ", good + "\n", "0x" + good, "0x" + good[:62],
		strings.ToUpper(good), good[:63] + "é", good[:62] + "é",
	}
	for _, x := range texts {
		if got, ok := sum.Parse(x); ok || !got.Zero() {
			t.Errorf("Parse of %q: %x, %v", x, got[:], ok)
		}
	}
}

// P1.1: each byte in each place: only the sixteen digits are good.
func TestParseBytes(t *testing.T) {
	const small = "0123456789abcdef"
	for at := range 64 {
		for c := range 256 {
			x := bytes.Repeat([]byte{'7'}, 64)
			x[at] = byte(c)
			got, ok := sum.Parse(string(x))
			want := strings.IndexByte(small, byte(c)) >= 0
			if ok != want {
				t.Errorf("Parse with byte %d at %d: %v", c, at, ok)
			}
			if ok && got.Text() != string(x) || !ok && !got.Zero() {
				t.Errorf("Parse with byte %d at %d: %x", c, at, got[:])
			}
		}
	}
}

// P1.1: by bytes without sign, the first that is unlike tells.
func TestCmp(t *testing.T) {
	var last sum.Sum
	last[31] = 1
	for i, c := range []struct {
		low, high sum.Sum
	}{
		{sum.Sum{}, sum.Sum{1}},
		{sum.Sum{}, last},
		{last, sum.Sum{1}},
		{sum.Sum{0x7f}, sum.Sum{0x80}},
		{sum.Sum{1, 255, 255}, sum.Sum{2}},
		{sum.Sum{0, 0, 0, 0, 0, 0, 0, 9, 1}, sum.Sum{1}},
		{rising(0, 1), rising(0, 2)},
		{sum.Sum{0xfe}, sum.Sum{0xff}},
	} {
		if got := c.low.Cmp(c.high); got != -1 {
			t.Errorf("Cmp of number %d: %d, want -1", i, got)
		}
		if got := c.high.Cmp(c.low); got != 1 {
			t.Errorf("Cmp of number %d, turned: %d, want 1", i, got)
		}
		if c.low.Cmp(c.low) != 0 || c.high.Cmp(c.high) != 0 {
			t.Errorf("Cmp of number %d with itself", i)
		}
	}
	for at := range 32 {
		var low, high sum.Sum
		low[at], high[at] = 127, 128
		if low.Cmp(high) != -1 || high.Cmp(low) != 1 {
			t.Errorf("Cmp does not ask for byte %d", at)
		}
	}
}

// P1.1: byte by byte; neither of the two is changed.
func TestXor(t *testing.T) {
	a, b := rising(3, 29), rising(200, 101)
	wasA, wasB := a, b
	got := a.Xor(b)
	for i := range got {
		if got[i] != a[i]^b[i] {
			t.Errorf("Xor: byte %d is %x", i, got[i])
		}
	}
	if a != wasA || b != wasB {
		t.Errorf("Xor changes what is handed in")
	}
	if b.Xor(a) != got || got.Xor(b) != a || got.Xor(a) != b {
		t.Errorf("Xor is not its own way back")
	}
	if !a.Xor(a).Zero() || a.Xor(sum.Sum{}) != a {
		t.Errorf("Xor with itself, with noughts")
	}
}

// P1.1: one bit anywhere, and it is not Zero.
func TestZero(t *testing.T) {
	if !(sum.Sum{}).Zero() {
		t.Errorf("Zero of noughts")
	}
	for at := range 256 {
		var s sum.Sum
		s[at/8] = 1 << (at % 8)
		if s.Zero() {
			t.Errorf("Zero with bit %d", at)
		}
	}
}

// P1.1: the lowest byte of a word first.
func TestWord(t *testing.T) {
	s := rising(1, 1)
	for i, want := range []uint64{0x0807060504030201, 0x100f0e0d0c0b0a09, 0x1817161514131211, 0x201f1e1d1c1b1a19} {
		if got := s.Word(i); got != want {
			t.Errorf("Word(%d): %x, want %x", i, got, want)
		}
	}
	for at := range 256 {
		var one sum.Sum
		one[at/8] = 1 << (at % 8)
		for i := range 4 {
			var want uint64
			if at/64 == i {
				want = 1 << (at % 64)
			}
			if got := one.Word(i); got != want {
				t.Errorf("Word(%d) with bit %d: %x, want %x", i, at, got, want)
			}
		}
	}
}

// P1.1, R1, R6: an i out of bounds: 0, and no panic.
func TestWordOutOfBounds(t *testing.T) {
	s := rising(1, 1)
	for _, i := range []int{-1, -4, -8, 4, 5, 8, 31, 32, 1 << 40, 1 << 61, math.MaxInt, math.MinInt, math.MinInt + 1} {
		if got := s.Word(i); got != 0 {
			t.Errorf("Word(%d): %x, want 0", i, got)
		}
	}
}
