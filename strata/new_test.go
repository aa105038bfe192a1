package strata_test

import (
	"slices"
	"testing"

	"tallyman/cell"
	"tallyman/set"
	"tallyman/strata"
	"tallyman/sum"
	"tallyman/table"
)

// other is a sum that nothing has, and others is a cell with it.
var (
	other  = sum.Sum{1, 2, 3}
	others = cell.Cell{Count: 1, Key: other, Check: check(other)}
)

// roomy makes a list with spare room, and the whole of it.
func roomy[T any](l []T, spare T) (was, whole []T) {
	whole = slices.Concat(l, []T{spare, spare, spare})
	return whole[:len(l)], whole
}

// spoil makes all of a list another, spare room too.
func spoil[T any](l []T, by T) {
	l = l[:cap(l)]
	for i := range l {
		l[i] = by
	}
}

// lists are sets that may be, and such that may not.
func lists() []set.Set {
	return []set.Set{nil, from(0, 1), from(0, 30), {nth(2), nth(1)}, {nth(1), nth(1)}, slices.Concat(from(0, 60), from(0, 20)), from(0, 520)}
}

// all are strata that may be, and such that may not.
func all() []strata.Strata {
	short := empty(3)
	short.L = short.L[:9]
	small := empty(3)
	small.L[4].L = small.L[4].L[:21]
	return []strata.Strata{empty(3), wantOf(3, from(0, 20)...), wantOf(3, from(10, 300)...), strange(3), wantOf(4, nth(1)), short, small, {}}
}

// R3, R4: Of does not change the set, spare room included.
func TestLeavesSet(t *testing.T) {
	for _, l := range lists() {
		s, whole := roomy(l, other)
		was := slices.Clone(whole)
		strata.Of(3, s)
		if !slices.Equal(whole, was) {
			t.Errorf("Of %d sums", len(l))
		}
	}
}

// R3, R4: Good and Differ change nothing of what is handed in, spare room included.
func TestLeavesStrata(t *testing.T) {
	for _, a := range all() {
		for _, b := range all() {
			var cells, wasCells [][]cell.Cell
			var tables, wasTables [][]table.Table
			for _, x := range []*strata.Strata{&a, &b} {
				*x = clone(*x)
				for i := range x.L {
					var whole []cell.Cell
					x.L[i].L, whole = roomy(x.L[i].L, others)
					cells, wasCells = append(cells, whole), append(wasCells, slices.Clone(whole))
				}
				var whole []table.Table
				x.L, whole = roomy(x.L, table.Table{Seed: 99})
				tables, wasTables = append(tables, whole), append(wasTables, slices.Clone(whole))
			}
			strata.Good(a)
			strata.Differ(a, b)
			if !slices.EqualFunc(cells, wasCells, slices.Equal) || !slices.EqualFunc(tables, wasTables, isSame) {
				t.Errorf("Differ of %s; %s", tell(a), tell(b))
			}
		}
	}
}

// isSame tells whether tables are of the same Seeds and the very same cells.
func isSame(a, b []table.Table) bool {
	return slices.EqualFunc(a, b, func(s, t table.Table) bool {
		return s.Seed == t.Seed && len(s.L) == len(t.L) && (len(s.L) == 0 || &s.L[0] == &t.L[0])
	})
}

// R4: what Of answers is new memory, spare room too, and none of its tables
// shares any with another.
func TestNew(t *testing.T) {
	for _, l := range lists() {
		s := slices.Clone(l)
		want := clone(strata.Of(3, s))
		for at := range levels {
			got := strata.Of(3, s)
			spoil(got.L[at].L, others)
			for i := range got.L {
				if i != at && !slices.Equal(got.L[i].L, want.L[i].L) {
					t.Errorf("Of %d sums: level %d shares with %d", len(l), at, i)
				}
			}
			spoil(got.L, table.Table{})
		}
		if !slices.Equal(s, l) || !same(strata.Of(3, s), want) {
			t.Errorf("Of %d sums shares what it answers", len(l))
		}
		got := strata.Of(3, s)
		spoil(s, other)
		if !same(got, want) {
			t.Errorf("Of %d sums shares what it was handed", len(l))
		}
	}
}

// R5: a call hangs on nothing that was called ahead of it.
func TestAgain(t *testing.T) {
	for range 2 {
		for _, a := range all() {
			for _, b := range all() {
				if strata.Good(a) && strata.Good(b) && a.Seed == b.Seed {
					isDiffer(t, a, b, wantDiffer(a, b))
				} else {
					isNot(t, a, b)
				}
			}
		}
	}
}
