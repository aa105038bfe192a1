package cut_test

import (
	"math"
	"testing"

	"tallyman/api"
	"tallyman/cut"
)

// rule makes a rule that parts nowhere but at Max.
func rule(least, most, window int) cut.Rule {
	return cut.Rule{Min: least, Max: most, Window: window, Mask: 0, Want: 1}
}

// goods has rules that may be, those at the limits too.
func goods() []cut.Rule {
	return []cut.Rule{
		cut.Plain(),
		rule(1, 1, 1), rule(1, 2, 1), rule(2, 2, 1), rule(2, 2, 2), rule(5, 9, 4), rule(5, 9, 5),
		rule(64, 64, 64), rule(64, 65, 64), rule(65, 65, 64), rule(64, 64, 1),
		rule(1, 65535, 1), rule(1, 65536, 1), rule(64, 65536, 64), rule(65535, 65536, 64), rule(65536, 65536, 1), rule(65536, 65536, 64),
		{Min: 8, Max: 8, Window: 8},
		{Min: 8, Max: 9, Window: 8, Mask: math.MaxUint64, Want: math.MaxUint64},
		{Min: 8, Max: 9, Window: 8, Mask: math.MaxUint64},
		{Min: 8, Max: 9, Window: 8, Want: math.MaxUint64},
	}
}

// bads has rules that may not be: each limit by one, by far, and some at once.
func bads() []cut.Rule {
	return []cut.Rule{
		{}, {Mask: 31, Want: 7},
		rule(0, 0, 0), rule(1, 1, 0), rule(16, 128, 0), rule(16, 128, -1), rule(16, 128, math.MinInt), rule(math.MinInt, math.MaxInt, math.MinInt),
		rule(65, 65, 65), rule(65, 128, 65), rule(100, 128, 99), rule(1000, 2000, 1000), rule(65536, 65536, math.MaxInt), rule(math.MaxInt, math.MaxInt, math.MaxInt),
		rule(0, 128, 1), rule(7, 128, 8), rule(63, 128, 64), rule(0, 128, 8), rule(-1, 128, 8), rule(math.MinInt, 128, 8), rule(-8, 128, 8),
		rule(16, 15, 8), rule(16, 0, 8), rule(16, -1, 8), rule(16, math.MinInt, 8), rule(1, 0, 1), rule(64, 63, 64), rule(65536, 65535, 8), rule(math.MaxInt, 128, 8),
		rule(16, 65537, 8), rule(65537, 65537, 8), rule(1, 65537, 1), rule(16, math.MaxInt, 8), rule(math.MaxInt, math.MaxInt, 8), rule(16, 1<<32+128, 8), rule(16, 1<<31, 8),
		{Min: 0, Max: 0, Window: 8, Mask: 31, Want: 7},
		{Min: 16, Max: 128, Window: 1<<32 + 8, Mask: 31, Want: 7},
		{Min: -16, Max: -8, Window: -20, Mask: 31, Want: 7},
	}
}

// P6.1: Window from 1 to 64; Min from Window on; Max from Min to 65536; any
// Mask, any Want.
func TestGood(t *testing.T) {
	for _, r := range goods() {
		if !cut.Good(r) {
			t.Errorf("Good of %+v: false", r)
		}
	}
	for _, r := range bads() {
		if cut.Good(r) {
			t.Errorf("Good of %+v: true", r)
		}
	}
}

// P6.1: Good, at each limit by itself, of each window.
func TestGoodLimits(t *testing.T) {
	for w := -2; w <= 70; w++ {
		fits := 1 <= w && w <= 64
		for _, c := range []struct {
			r    cut.Rule
			want bool
		}{
			{rule(w, w, w), fits},
			{rule(w-1, w+9, w), false},
			{rule(w+1, w+1, w), fits},
			{rule(w+1, w, w), false},
			{rule(w, 65536, w), fits},
			{rule(w, 65537, w), false},
		} {
			if cut.Good(c.r) != c.want {
				t.Errorf("Good of %+v: %v", c.r, !c.want)
			}
		}
	}
}

// P6.1: Plain.
func TestPlain(t *testing.T) {
	want := cut.Rule{Min: api.MinChunk, Max: api.MaxChunk, Window: api.Window, Mask: 31, Want: 7}
	if got := cut.Plain(); got != want || got != (cut.Rule{Min: 16, Max: 128, Window: 8, Mask: 31, Want: 7}) {
		t.Errorf("Plain: %+v", got)
	}
	if !cut.Good(cut.Plain()) {
		t.Errorf("Plain is not Good")
	}
}

// P6.1: of what is not Good: nothing, 0.
func TestNotGood(t *testing.T) {
	for _, r := range bads() {
		for _, n := range []int{0, 1, 7, 8, 16, 128, 300} {
			b := noise(n, 5)
			if got := cut.Next(r, b); got != 0 {
				t.Errorf("Next by %+v of %d bytes: %d", r, n, got)
			}
			if got := cut.Ends(r, b); len(got) != 0 {
				t.Errorf("Ends by %+v of %d bytes: %v", r, n, got)
			}
			if got := cut.Parts(r, b); len(got) != 0 {
				t.Errorf("Parts by %+v of %d bytes: %v", r, n, got)
			}
		}
	}
}
