package peel_test

import (
	"slices"
	"testing"

	"tallyman/api"
	"tallyman/peel"
	"tallyman/sum"
	"tallyman/table"
)

// A table whose cells are all nought at last though a sum came out of it twice:
// in the cell alike many lie, none of them x, who look as x alone does. So x
// comes out of there, and goes in again when those have come out elsewhere.
//
// No cell ahead of alike may be pure before x came out: in the first part each
// cell has two. And when the first of alike's came out (its cell looks as that
// one alone does then) another must follow ahead of it: so gate opens two of
// the first part one by one, and last, which has one alone, opens gate.
const (
	twiceSeed = 1
	twiceSize = 1023
	gate      = 341
	alike     = 342
	held      = 343
	last      = 682
)

// row is which bits of a sum and its check are 1, that it is one, and out of
// which of a list it was put together.
type row [20]uint64

const (
	oddBit  = 512
	listBit = 513
)

func (r *row) has(bit int) bool { return r[bit/64]>>(bit%64)&1 == 1 }

func (r *row) flip(bit int) { r[bit/64] ^= 1 << (bit % 64) }

func (r *row) xor(o row) {
	for i := range r {
		r[i] ^= o[i]
	}
}

// rowOf tells a sum's row.
func rowOf(x sum.Sum) row {
	var r row
	k := check(x)
	for i, b := range append(slices.Clone(x[:]), k[:]...) {
		r[i/8] |= uint64(b) << (i % 8 * 8)
	}
	r.flip(oddBit)
	return r
}

// together tells which of a list, an odd number of them, look as x does when
// they lie on each other.
func together(x sum.Sum, l []sum.Sum) []sum.Sum {
	var rows []row
	var leads []int
	reduced := func(r row) (row, int) {
		for i, o := range rows {
			if r.has(leads[i]) {
				r.xor(o)
			}
		}
		for bit := range listBit {
			if r.has(bit) {
				return r, bit
			}
		}
		return r, -1
	}
	for i, y := range l {
		r := rowOf(y)
		r.flip(listBit + i)
		if r, lead := reduced(r); lead >= 0 {
			rows, leads = append(rows, r), append(leads, lead)
		}
	}
	r, lead := reduced(rowOf(x))
	var got []sum.Sum
	for i, y := range l {
		if lead < 0 && r.has(listBit+i) {
			got = append(got, y)
		}
	}
	return got
}

// forest is cells of the first and the last part, joined by sums so that no way
// comes back to itself: so that they come out one by one, whichever there are.
type forest []int

func bare() forest {
	f := make(forest, twiceSize)
	for i := range f {
		f[i] = i
	}
	return f
}

func (f forest) root(at int) int {
	for f[at] != at {
		at = f[at]
	}
	return at
}

// join joins two, if they aren't yet.
func (f forest) join(at, to int) bool {
	a, b := f.root(at), f.root(to)
	f[a] = b
	return a != b
}

// pool is sums that lie in one cell of the second part.
type pool struct {
	l  []sum.Sum
	at [][]int
}

// pools tells those of gate, of alike and of held.
func pools(many int) (l [3]pool) {
	for i := range many {
		x := nth(i)
		p := places(twiceSeed, twiceSize, x)
		if j := p[1] - gate; j < len(l) {
			l[j].l, l[j].at = append(l[j].l, x), append(l[j].at, p)
		}
	}
	return l
}

// grown tells so many of a pool that make a forest, without last's cell.
func (p pool) grown(many int) []sum.Sum {
	var l []sum.Sum
	f := bare()
	for i, at := range p.at {
		if len(l) < many && at[2] != last && f.join(at[0], at[2]) {
			l = append(l, p.l[i])
		}
	}
	return l
}

// hold tells sums of a pool that fill up what some cells of the first part want
// for having two, and still make a forest.
func (p pool) hold(f forest, want []int, many int, only func(at int) bool) []sum.Sum {
	var l []sum.Sum
	for i, at := range p.at {
		if len(l) < many && want[at[0]] > 0 && only(at[2]) && f.join(at[0], at[2]) {
			want[at[0]]--
			l = append(l, p.l[i])
		}
	}
	return l
}

// twice makes the table, and tells the sum, and all that are put in.
func twice() (a table.Table, x sum.Sum, in []sum.Sum) {
	p := pools(2_000_000)
	l := p[1].grown(561)
	x, l = l[0], together(l[0], l[1:])
	f := bare()
	var want [twiceSize / 3]int
	for _, y := range append(slices.Clone(l), x) {
		at := places(twiceSeed, twiceSize, y)
		f.join(at[0], at[2])
		want[at[0]]++
	}
	home := places(twiceSeed, twiceSize, x)[0]
	want[home]--
	for i, n := range want {
		want[i] = 0
		if n > 0 || i == home {
			want[i] = max(2-n, 0)
		}
	}
	gates := slices.Clone(want[:])
	gates[home] = 0
	in = p[0].hold(f, gates, 1, func(at int) bool { return at == last })
	in = append(in, p[0].hold(f, gates, 1, func(at int) bool { return at != last })...)
	for _, z := range in {
		want[places(twiceSeed, twiceSize, z)[0]]--
	}
	in = append(in, p[2].hold(f, want[:], twiceSize, func(at int) bool { return at != last })...)
	half := len(l) / 2
	a = diff(twiceSeed, twiceSize, slices.Concat(in, l[half:]), l[:half])
	return a, x, append(in, l...)
}

// P16.1: a table that is Zero at last, though a sum was taken out twice.
func TestAllTwice(t *testing.T) {
	a, x, in := twice()
	if a.L[alike] != alone(1, x) || slices.Contains(in, x) || slices.Contains(a.L[:alike], alone(1, x)) {
		t.Fatalf("the table isn't as it should be: %s", tell(a))
	}
	isLeft(t, a, empty(a.Seed, len(a.L)))
	if theirs, ours, err := peel.Own(a, nil); err != api.EPEEL || len(theirs) > 0 || len(ours) > 0 {
		t.Errorf("Own: %d, %d, %v", len(theirs), len(ours), err)
	}
}
