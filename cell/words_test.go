package cell_test

import (
	"testing"

	"tallyman/cell"
	"tallyman/sum"
)

// step is a sum that is put in, or taken out.
type step struct {
	x   sum.Sum
	out bool
}

// wantCell tells a cell behind some steps by the document's words.
func wantCell(l []step) cell.Cell {
	var c cell.Cell
	for _, s := range l {
		if s.out {
			c.Count--
		} else {
			c.Count++
		}
		c.Key, c.Check = xor(c.Key, s.x), xor(c.Check, wantOf(s.x))
	}
	return c
}

// wantPure tells Pure's answer by the document's words.
func wantPure(c cell.Cell) (x sum.Sum, plus bool, ok bool) {
	if (c.Count == 1 || c.Count == -1) && c.Check == wantOf(c.Key) {
		return c.Key, c.Count == 1, true
	}
	return sum.Sum{}, false, false
}

// do does some steps.
func do(l []step) cell.Cell {
	var c cell.Cell
	for _, s := range l {
		if s.out {
			c = cell.Take(c, s.x)
		} else {
			c = cell.Put(c, s.x)
		}
	}
	return c
}

// scripts makes each list of at most n steps with some sums.
func scripts(some []sum.Sum, n int) [][]step {
	l := [][]step{nil}
	from := 0
	for range n {
		to := len(l)
		for _, s := range l[from:to] {
			for _, x := range some {
				for _, out := range []bool{false, true} {
					l = append(l, append(append([]step(nil), s...), step{x, out}))
				}
			}
		}
		from = to
	}
	return l
}

// P13.1: each script of at most five steps with three sums, told by the
// document's words.
func TestWords(t *testing.T) {
	for _, l := range scripts([]sum.Sum{{}, {1}, count()}, 5) {
		c := do(l)
		if want := wantCell(l); c != want {
			t.Fatalf("%v: %v, want %v", l, c, want)
		}
		x, plus, ok := cell.Pure(c)
		if wantX, wantPlus, wantOK := wantPure(c); x != wantX || plus != wantPlus || ok != wantOK {
			t.Fatalf("Pure behind %v: %s, %v, %v", l, x.Text(), plus, ok)
		}
		if got := cell.Zero(c); got != (c.Count == 0 && c.Key == sum.Sum{} && c.Check == sum.Sum{}) {
			t.Fatalf("Zero behind %v: %v", l, got)
		}
	}
}

// P13.1: Minus of each two scripts of at most three steps is what both did,
// the other one's turned about.
func TestWordsMinus(t *testing.T) {
	all := scripts([]sum.Sum{{}, full()}, 3)
	for _, a := range all {
		for _, b := range all {
			both := append([]step(nil), a...)
			for _, s := range b {
				both = append(both, step{s.x, !s.out})
			}
			if got, want := cell.Minus(do(a), do(b)), wantCell(both); got != want {
				t.Fatalf("%v less %v: %v, want %v", a, b, got, want)
			}
		}
	}
}
