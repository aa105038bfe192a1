package table_test

import (
	"slices"
	"testing"

	"tallyman/api"
	"tallyman/cell"
	"tallyman/sum"
	"tallyman/table"
)

// step is a sum that is put in, or taken out.
type step struct {
	x   sum.Sum
	out bool
}

// scripts makes each list of at most n steps with some sums.
func scripts(some []sum.Sum, n int) [][]step {
	l := [][]step{nil}
	from := 0
	for range n {
		to := len(l)
		for _, s := range l[from:to] {
			for _, x := range some {
				for _, out := range []bool{false, true} {
					l = append(l, append(slices.Clone(s), step{x, out}))
				}
			}
		}
		from = to
	}
	return l
}

// do does some steps, and tells what the document's words make of them.
func do(seed uint64, n int, l []step) (got, want table.Table) {
	got, _ = table.New(seed, n)
	want = table.Table{Seed: seed, L: make([]cell.Cell, n)}
	for _, s := range l {
		if s.out {
			got, want.L = table.Take(got, s.x), wantLaid(want, -1, s.x)
		} else {
			got, want.L = table.Put(got, s.x), wantLaid(want, 1, s.x)
		}
	}
	return got, want
}

// wantZero and wantCount tell of a table by the document's words.
func wantZero(t table.Table) bool { return slices.Equal(t.L, make([]cell.Cell, len(t.L))) }

func wantCount(t table.Table) int64 {
	var n int64
	for i := range len(t.L) / 3 {
		n += t.L[i].Count
	}
	return n
}

// P15.1: each script of at most four steps with three sums.
func TestWords(t *testing.T) {
	for _, n := range []int{3, 6, 12} {
		for _, l := range scripts([]sum.Sum{{}, one("a"), full()}, 4) {
			got, want := do(2, n, l)
			if !same(got, 2, want.L) {
				t.Fatalf("%d cells, %v: %v, want %v", n, l, got, want)
			}
			if table.Zero(got) != wantZero(want) || table.Count(got) != wantCount(want) {
				t.Fatalf("%d cells, %v: Zero %v, Count %d", n, l, table.Zero(got), table.Count(got))
			}
		}
	}
}

// P15.1: Minus of each two scripts of at most two steps is what both did, the
// other one's turned about.
func TestWordsMinus(t *testing.T) {
	all := scripts([]sum.Sum{{}, one("a"), full()}, 2)
	for _, a := range all {
		for _, b := range all {
			both := slices.Clone(a)
			for _, s := range b {
				both = append(both, step{s.x, !s.out})
			}
			x, _ := do(2, 6, a)
			y, _ := do(2, 6, b)
			_, want := do(2, 6, both)
			if got, err := table.Minus(x, y); err != api.OK || !same(got, 2, want.L) {
				t.Fatalf("%v less %v: %v, %v, want %v", a, b, got, err, want)
			}
		}
	}
}
