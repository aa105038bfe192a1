package strata_test

import (
	"slices"
	"testing"

	"tallyman/api"
	"tallyman/cell"
	"tallyman/set"
	"tallyman/strata"
	"tallyman/sum"
	"tallyman/table"
)

// wantFirst tells the first cell from which a sum can be taken out, by the
// document's words (-1, if there is none).
func wantFirst(t table.Table) int {
	for at, c := range t.L {
		if (c.Count == 1 || c.Count == -1) && check(c.Key) == c.Check && slices.Contains(places(t.Seed, len(t.L), c.Key), at) {
			return at
		}
	}
	return -1
}

// wantOut tells how many come out of a table, by the document's words.
func wantOut(t table.Table) (int, bool) {
	t.L = slices.Clone(t.L)
	often := map[sum.Sum]int{}
	n := 0
	for n <= 1024 {
		at := wantFirst(t)
		if at < 0 {
			break
		}
		c := t.L[at]
		for _, p := range places(t.Seed, len(t.L), c.Key) {
			t.L[p] = lay(t.L[p], -c.Count, c.Key)
		}
		often[c.Key]++
		n++
	}
	left := slices.ContainsFunc(t.L, func(c cell.Cell) bool { return c != cell.Cell{} })
	return n, !left && len(often) == n
}

// wantDiffer tells Differ of what is Good and of one Seed, by the document's words.
func wantDiffer(a, b strata.Strata) int {
	counted := 0
	for i := 9; i >= 0; i-- {
		less := table.Table{Seed: a.Seed}
		for j, c := range a.L[i].L {
			d := lay(c, 0, sum.Sum{})
			d.Count -= b.L[i].L[j].Count
			for k := range d.Key {
				d.Key[k] ^= b.L[i].L[j].Key[k]
				d.Check[k] ^= b.L[i].L[j].Check[k]
			}
			less.L = append(less.L, d)
		}
		n, ok := wantOut(less)
		if !ok {
			times := 1
			for range i + 1 {
				times *= 2
			}
			if counted == 0 {
				return min(times*24, 1024)
			}
			return min(times*counted, 1024)
		}
		counted += n
	}
	return counted
}

// mix is numbers that hang on nothing but how many were told.
type mix uint64

func (m *mix) next(n int) int {
	*m = *m*6364136223846793005 + 1442695040888963407
	return int(uint64(*m) >> 33 % uint64(n))
}

// P17.1: sets of any size that are more and more unlike. Where all comes out it
// is just what they differ by.
func TestWordsSets(t *testing.T) {
	var m mix
	just, about := 0, 0
	for range 300 {
		both := from(5000, m.next(300))
		more, less := from(0, m.next(1+m.next(90))), from(1000, m.next(1+m.next(90)))
		seed := uint64(m.next(1000))
		a, b := set.Either(more, both), set.Either(less, both)
		x, y := strata.Of(seed, a), strata.Of(seed, b)
		want := wantDiffer(x, y)
		isDiffer(t, x, y, want)
		if want == len(more)+len(less) {
			just++
		} else {
			about++
		}
	}
	if just < 60 || about < 60 {
		t.Errorf("%d were told just, %d about", just, about)
	}
}

// P17.1: what is told is seldom far off: mostly between half and twice as many.
func TestWordsAbout(t *testing.T) {
	off, all := 0, 0
	for n := 1; n <= 512; n += 7 {
		for seed := range uint64(3) {
			got, err := strata.Differ(strata.Of(seed, from(int(seed)*1000, n)), strata.Of(seed, nil))
			if err != api.OK || got < 1 || got > 1024 {
				t.Fatalf("of %d: %d, %v", n, got, err)
			}
			if got < n/2 || got > 2*n {
				off++
			}
			all++
		}
	}
	if off*10 > all {
		t.Errorf("%d of %d are far off", off, all)
	}
}

// P17.1: tables such as no set makes, with sums at any level, more than once or
// less than none.
func TestWordsNoSets(t *testing.T) {
	var m mix
	often := map[int]int{}
	for range 400 {
		seed := uint64(m.next(1000))
		a, b := empty(seed), empty(seed)
		for i := range 1 + m.next(30) {
			a = put(a, m.next(levels), int64(m.next(12)/4-m.next(12)/10), nth(i))
			b = put(b, m.next(levels), int64(m.next(9)/4), nth(m.next(i+1)))
		}
		if m.next(3) == 0 {
			at := m.next(levels)
			a.L[at].L[m.next(size)] = b.L[at].L[m.next(size)]
		}
		want := wantDiffer(a, b)
		isDiffer(t, a, b, want)
		often[want]++
	}
	if len(often) < 20 {
		t.Errorf("%v", often)
	}
}
