package peel_test

import (
	"slices"
	"testing"

	"tallyman/api"
	"tallyman/cell"
	"tallyman/peel"
	"tallyman/set"
	"tallyman/sum"
	"tallyman/table"
)

// tables are such that come out, that don't, and that may not be.
func tables() []table.Table {
	a := put(empty(3, 30), 1, from(0, 5)...)
	return []table.Table{
		empty(3, 3), a, put(a, -2, nth(1)), put(empty(3, 3), 1, from(0, 2)...), put(empty(3, 30), -1, nth(8)),
		{Seed: 3, L: []cell.Cell{alone(1, nth(0)), {}, {}}}, {}, empty(1, 5),
	}
}

// sets are such that may be, and that may not.
func sets() []set.Set {
	return []set.Set{nil, from(0, 5), from(3, 5), {nth(0)}, {nth(1), nth(1)}, from(0, 513)}
}

// roomy makes a list with spare room, and the whole of it.
func roomy[T any](l []T, spare T) (was, whole []T) {
	whole = slices.Concat(l, []T{spare, spare, spare})
	return whole[:len(l)], whole
}

// spoil makes all of a list another, spare room too.
func spoil[T any](l []T, by T) {
	l = l[:cap(l)]
	for i := range l {
		l[i] = by
	}
}

// other is a sum and a cell that nothing has.
var other = sum.Sum{1, 2, 3}

// R3, R4: no call changes what is handed in, spare room included.
func TestLeaves(t *testing.T) {
	for _, a := range tables() {
		for _, s := range sets() {
			var cells []cell.Cell
			b := a
			b.L, cells = roomy(a.L, alone(1, other))
			mine, sums := roomy(s, other)
			wasCells, wasSums := slices.Clone(cells), slices.Clone(sums)
			peel.All(b)
			peel.Own(b, mine)
			if !slices.Equal(cells, wasCells) || !slices.Equal(sums, wasSums) {
				t.Errorf("of %s, %d sums", tell(a), len(s))
			}
		}
	}
}

// R4: what All answers is new memory, spare room too.
func TestNewAll(t *testing.T) {
	for _, a := range tables() {
		want, wantErr := peel.All(a)
		was := slices.Clone(a.L)
		got, _ := peel.All(a)
		spoil(got.Left.L, alone(1, other))
		isEqual(t, got.Plus, want.Plus)
		spoil(got.Plus, other)
		isEqual(t, got.Minus, want.Minus)
		spoil(got.Minus, other)
		isEqual(t, a.L, was)
		got, err := peel.All(a)
		spoil(a.L, alone(-1, other))
		isEqual(t, got.Plus, want.Plus)
		isEqual(t, got.Minus, want.Minus)
		isEqual(t, got.Left.L, want.Left.L)
		if err != wantErr || got.Left.Seed != want.Left.Seed {
			t.Errorf("of %s: %v", tell(a), err)
		}
	}
}

// R4: what Own answers is new memory, spare room too.
func TestNewOwn(t *testing.T) {
	for _, all := range tables() {
		for _, s := range sets() {
			a := table.Table{Seed: all.Seed, L: slices.Clone(all.L)}
			wasA, wasS := slices.Clone(a.L), slices.Clone(s)
			wantTheirs, wantOurs, want := peel.Own(a, s)
			theirs, ours, _ := peel.Own(a, s)
			spoil(theirs, other)
			isEqual(t, ours, wantOurs)
			spoil(ours, other)
			isEqual(t, a.L, wasA)
			isEqual(t, s, wasS)
			theirs, ours, err := peel.Own(a, s)
			spoil(a.L, alone(1, other))
			spoil(s, other)
			isEqual(t, theirs, wantTheirs)
			isEqual(t, ours, wantOurs)
			if err != want {
				t.Errorf("of %s: %v", tell(a), err)
			}
		}
	}
}

// isEqual tells whether a list is another.
func isEqual[L ~[]T, T comparable](t *testing.T, got, want L) {
	t.Helper()
	if !slices.Equal(got, want) {
		t.Errorf("%d of another kind than %d", len(got), len(want))
	}
}

// R3, R5: a call hangs on nothing that was called ahead of it.
func TestAgain(t *testing.T) {
	for range 2 {
		for _, a := range tables() {
			if table.Good(a) {
				isSaid(t, a)
			} else if _, err := peel.All(a); err != api.EARG {
				t.Errorf("of %s: %v", tell(a), err)
			}
		}
	}
}
