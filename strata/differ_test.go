package strata_test

import (
	"math"
	"testing"

	"tallyman/cell"
	"tallyman/set"
	"tallyman/strata"
	"tallyman/sum"
)

// P17.1: Differ of sets, worked out elsewhere: few come out all, of many the
// rest is reckoned.
func TestDifferKnown(t *testing.T) {
	for _, c := range []struct {
		seed         uint64
		a, na, b, nb int
		want         int
	}{
		{0, 0, 0, 0, 0, 0},
		{1, 0, 0, 0, 1, 1},
		{1, 0, 5, 3, 5, 6},
		{1, 0, 20, 0, 0, 20},
		{3, 0, 40, 10, 40, 20},
		{3, 0, 60, 30, 60, 68},
		{5, 0, 100, 0, 50, 72},
		{5, 0, 150, 150, 0, 176},
		{5, 0, 200, 100, 200, 224},
		{5, 0, 300, 200, 300, 448},
		{9, 0, 400, 200, 400, 384},
		{9, 0, 512, 512, 512, 768},
		{9, 0, 512, 0, 0, 544},
		{9, 0, 512, 256, 512, 384},
		{9, 0, 512, 400, 512, 640},
		{1 << 63, 0, 512, 500, 512, 1024},
		{4, 0, 512, 490, 512, 960},
		{4, 0, 3000, 0, 0, 1024},
	} {
		isDiffer(t, strata.Of(c.seed, from(c.a, c.na)), strata.Of(c.seed, from(c.b, c.nb)), c.want)
	}
}

// P17.1: what both have in common, however much, tells nothing.
func TestDifferCommon(t *testing.T) {
	for n := range 9 {
		both := from(5000, 500)
		a, b := from(0, n/2), from(1000, n-n/2)
		for seed := range uint64(3) {
			isDiffer(t, strata.Of(seed, set.Either(a, both)), strata.Of(seed, set.Either(b, both)), n)
		}
	}
	// Nor does what no set makes, where both have it.
	for _, seed := range []uint64{0, 1, math.MaxUint64} {
		a := strange(seed)
		isDiffer(t, a, a, 0)
		isDiffer(t, put(a, 3, 1, nth(1)), put(a, 8, 1, from(2, 2)...), 3)
	}
}

// P17.1: EARG of unlike Seeds, though both are Good.
func TestDifferSeed(t *testing.T) {
	for bit := range 64 {
		seed := uint64(0x0102030405060708)
		isNot(t, empty(seed), empty(seed^1<<bit))
		isNot(t, strata.Of(seed, from(0, 5)), strata.Of(seed^1<<bit, from(0, 5)))
	}
}

// P17.1: all that comes out counts, at each level, on each side.
func TestDifferAll(t *testing.T) {
	for at := range levels {
		isDiffer(t, put(empty(2), at, 1, nth(0)), empty(2), 1)
		isDiffer(t, put(empty(2), at, 1, from(0, 3)...), empty(2), 3)
		isDiffer(t, put(empty(2), at, 1, nth(0)), put(empty(2), at, 1, from(1, 2)...), 3)
		isDiffer(t, put(empty(2), at, 1, nth(0)), put(empty(2), (at+1)%levels, 1, nth(1)), 2)
		isDiffer(t, put(put(empty(2), at, 1, nth(0)), at, -1, nth(1)), empty(2), 2)
	}
	// A sum is asked for no level: it counts wherever it comes out.
	a := empty(2)
	for at := range levels {
		a = put(a, at, 1, nth(0))
		isDiffer(t, a, empty(2), at+1)
	}
}

// pile are sums each of which has a cell that those ahead of it have not: so
// that they come out of one level, whichever side each is on.
func pile(seed uint64, n int) []sum.Sum {
	var l []sum.Sum
	taken := make([]bool, size)
	for i := 0; len(l) < n; i++ {
		fresh := 0
		for _, p := range places(seed, size, nth(i)) {
			if !taken[p] {
				fresh++
			}
		}
		if fresh == 1 || fresh > 0 && len(l) == 0 {
			for _, p := range places(seed, size, nth(i)) {
				taken[p] = true
			}
			l = append(l, nth(i))
		}
	}
	return l
}

// above lays n sums on the levels above one, about as many on each, on both
// sides of it.
func above(a strata.Strata, at, n int) strata.Strata {
	l := pile(a.Seed, 15)
	many := levels - 1 - at
	for i := range n {
		a = put(a, at+1+i%many, int64(1-i%3/2*2), l[i/many])
	}
	return a
}

// P17.1: where all comes out of each level it is what came out, however many.
func TestDifferFull(t *testing.T) {
	for n := range 15*levels + 1 {
		isDiffer(t, above(empty(2), -1, n), empty(2), n)
	}
}

// P17.1: at the first level, from the last down, that does not come out: 2^(level
// and 1) times what came out above it, at most 2 MaxSet.
func TestDifferStuck(t *testing.T) {
	for at := range levels - 1 {
		a := stick(empty(2), at)
		for n := 1; n <= 15*(levels-1-at); n++ {
			isDiffer(t, above(a, at, n), empty(2), min(n<<(at+1), 1024))
		}
	}
}

// P17.1: what was counted makes 2 MaxSet, one less, one more.
func TestDifferMost(t *testing.T) {
	for _, c := range []struct{ at, n, want int }{
		{8, 1, 512}, {8, 2, 1024}, {8, 3, 1024}, {7, 3, 768}, {7, 4, 1024}, {7, 5, 1024},
		{6, 7, 896}, {6, 8, 1024}, {6, 9, 1024}, {5, 15, 960}, {5, 16, 1024}, {5, 17, 1024},
		{4, 31, 992}, {4, 32, 1024}, {4, 33, 1024}, {3, 63, 1008}, {3, 64, 1024}, {3, 65, 1024},
		{2, 105, 840}, {0, 1, 2}, {0, 135, 270},
	} {
		isDiffer(t, stick(above(empty(1), c.at, c.n), c.at), empty(1), c.want)
	}
}

// P17.1: nothing counted: 2^(level and 1) times LevelSize, at most 2 MaxSet.
func TestDifferNone(t *testing.T) {
	for at, want := range []int{48, 96, 192, 384, 768, 1024, 1024, 1024, 1024, 1024} {
		isDiffer(t, stick(empty(0), at), empty(0), want)
		isDiffer(t, put(empty(0), at, 1, from(0, 200)...), empty(0), want)
		isDiffer(t, put(empty(0), at, 1, from(0, 200)...), put(empty(0), at, 1, from(300, 200)...), want)
	}
}

// P17.1: what lies below the first level that does not come out tells nothing,
// nor does what comes out of that level itself.
func TestDifferBelow(t *testing.T) {
	for at := 1; at < levels; at++ {
		a := stick(put(empty(7), at, 1, from(0, 4)...), at)
		none := min(24<<(at+1), 1024)
		for below := range at {
			a = put(a, below, 1, from(50*below, 2+below)...)
			isDiffer(t, a, empty(7), none)
		}
		for below := range at {
			a = stick(a, below)
			isDiffer(t, a, empty(7), none)
		}
		if at < levels-1 {
			isDiffer(t, put(a, levels-1, 1, nth(777)), empty(7), 1<<(at+1))
		}
	}
}

// P17.1: levels that do not come out for each reason: nothing that is alone, one
// alone that has no check, one that doesn't belong there, one that comes out
// again and again, one that is there twice.
func TestDifferReasons(t *testing.T) {
	x := nth(0)
	alone := cell.Cell{Count: 1, Key: x, Check: check(x)}
	at := places(3, size, x)
	away := 0
	for away == at[0] {
		away++
	}
	for i, c := range []struct {
		place int
		c     cell.Cell
	}{{0, cell.Cell{Count: 1}}, {5, cell.Cell{Count: -1, Key: x}}, {away, alone}, {at[0], alone}, {at[1], alone}, {at[2], alone}, {2, cell.Cell{Key: x, Check: check(x)}}, {23, cell.Cell{Check: x}}, {9, cell.Cell{Count: math.MinInt64}}} {
		for l := range levels - 1 {
			a := put(empty(3), l+1, 1, nth(1))
			a.L[l].L[c.place] = c.c
			if got, err := strata.Differ(a, empty(3)); got != 2<<l || err != 0 {
				t.Errorf("number %d at level %d: %d, %v", i, l, got, err)
			}
			if got, err := strata.Differ(empty(3), a); got != 2<<l || err != 0 {
				t.Errorf("number %d at level %d, the other way: %d, %v", i, l, got, err)
			}
		}
	}
	for l := range levels - 1 {
		isDiffer(t, put(put(empty(3), l+1, 1, nth(1)), l, 2, x), empty(3), 2<<l)
		isDiffer(t, put(put(empty(3), l+1, 1, nth(1)), l, 1, x), put(empty(3), l, -1, x), 2<<l)
	}
}

// P17.1: Cells by the document's words, for each number about the limits.
func TestCells(t *testing.T) {
	for d := -3000; d <= 3000; d++ {
		want := 1023
		for n := 1023; n >= 12; n -= 3 {
			if 2*n >= 3*d {
				want = n
			}
		}
		if got := strata.Cells(d); got != want {
			t.Errorf("Cells %d: %d, want %d", d, got, want)
		}
	}
}

// P17.1: Cells at the edges, and of numbers far off.
func TestCellsEdges(t *testing.T) {
	for _, c := range []struct{ d, want int }{
		{0, 12}, {1, 12}, {7, 12}, {8, 12}, {9, 15}, {10, 15}, {11, 18}, {12, 18}, {13, 21}, {100, 150}, {101, 153},
		{512, 768}, {680, 1020}, {681, 1023}, {682, 1023}, {683, 1023}, {684, 1023}, {1023, 1023}, {1024, 1023}, {1025, 1023},
		{-1, 12}, {-2, 12}, {-1024, 12}, {math.MinInt, 12}, {math.MinInt + 1, 12}, {math.MinInt/3 - 1, 12}, {math.MinInt32, 12},
		{math.MaxInt, 1023}, {math.MaxInt - 1, 1023}, {math.MaxInt/3 + 1, 1023}, {math.MaxInt/3*2 + 2, 1023}, {math.MaxInt / 2, 1023}, {1 << 32, 1023}, {math.MaxInt32, 1023},
	} {
		if got := strata.Cells(c.d); got != c.want {
			t.Errorf("Cells %d: %d, want %d", c.d, got, c.want)
		}
	}
}
