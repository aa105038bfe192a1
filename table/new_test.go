package table_test

import (
	"slices"
	"testing"

	"tallyman/cell"
	"tallyman/set"
	"tallyman/sum"
	"tallyman/table"
)

// calls are all that make a table of one or two tables, and of a set.
func calls() []func(a, b table.Table, s set.Set) table.Table {
	return []func(a, b table.Table, s set.Set) table.Table{
		func(a, b table.Table, s set.Set) table.Table { return table.Put(a, one("a")) },
		func(a, b table.Table, s set.Set) table.Table { return table.Take(a, one("a")) },
		func(a, b table.Table, s set.Set) table.Table { return made(table.Minus(a, b)) },
		func(a, b table.Table, s set.Set) table.Table { return made(table.Minus(a, a)) },
		func(a, b table.Table, s set.Set) table.Table { return made(table.Of(a.Seed, len(a.L), s)) },
		func(a, b table.Table, s set.Set) table.Table { return made(table.New(a.Seed, len(a.L))) },
	}
}

// made tells the first of two.
func made[A, B any](a A, _ B) A { return a }

// roomy makes a table with spare room, and the whole of its list.
func roomy(seed uint64, n int) (t table.Table, whole []cell.Cell) {
	whole = odd(seed, n+4).L
	return table.Table{Seed: 1, L: whole[:n]}, whole
}

// spoil makes all of a list another.
func spoil(l []cell.Cell) {
	for i := range l {
		l[i] = cell.Cell{Count: 99, Key: sum.Sum{255, 255}}
	}
}

// lists are sets that are Good, and that are not.
func lists() []set.Set {
	up := set.Of(first(5)...)
	down := slices.Clone(up)
	slices.Reverse(down)
	return []set.Set{nil, up, down, append(slices.Clone(down), down...)}
}

// R3, R4: no call changes a list that is handed in, spare room included.
func TestLeaves(t *testing.T) {
	for _, n := range append(good(), bad()...) {
		for _, s := range lists() {
			room := append(slices.Clone(s), first(9)...)
			wasRoom := slices.Clone(room)
			a, wholeA := roomy(3, n)
			b, wholeB := roomy(4, n)
			wasA, wasB := slices.Clone(wholeA), slices.Clone(wholeB)
			for _, call := range calls() {
				call(a, b, room[:len(s)])
			}
			table.Good(a)
			table.Zero(a)
			table.Count(a)
			if !slices.Equal(wholeA, wasA) || !slices.Equal(wholeB, wasB) || !slices.Equal(room, wasRoom) {
				t.Errorf("of %d cells, %d sums", n, len(s))
			}
		}
	}
}

// R4: what is answered is new memory, spare room too, or shared with what was
// handed in and never changed by a later call.
func TestNewMemory(t *testing.T) {
	for _, n := range good() {
		for i, call := range calls() {
			for _, s := range lists() {
				a, wholeA := roomy(3, n)
				b, wholeB := roomy(4, n)
				wasA, wasB, wasS := slices.Clone(wholeA), slices.Clone(wholeB), slices.Clone(s)
				got := call(a, b, s)
				want := slices.Clone(got.L)
				spoil(got.L[:cap(got.L)])
				if !slices.Equal(wholeA, wasA) || !slices.Equal(wholeB, wasB) || !slices.Equal(s, wasS) {
					t.Errorf("call %d of %d cells answers what is handed in", i, n)
				}
				if again := call(a, b, s); !slices.Equal(again.L, want) {
					t.Errorf("call %d of %d cells: another answer again", i, n)
				}
				got = call(a, b, s)
				spoil(wholeA)
				spoil(wholeB)
				if !slices.Equal(got.L, want) {
					t.Errorf("call %d of %d cells keeps what is handed in", i, n)
				}
			}
		}
	}
}

// R4: a table that is put on twice leaves both answers as they are.
func TestBranches(t *testing.T) {
	was, _ := table.New(6, 12)
	was = table.Put(was, one("a"))
	b := table.Put(was, one("b"))
	c := table.Put(was, one("c"))
	d := table.Take(was, one("a"))
	for _, p := range []struct {
		t table.Table
		l []sum.Sum
	}{{was, []sum.Sum{one("a")}}, {b, []sum.Sum{one("a"), one("b")}}, {c, []sum.Sum{one("a"), one("c")}}, {d, nil}} {
		if want, _ := table.Of(6, 12, p.l); !same(p.t, 6, want.L) {
			t.Errorf("of %d sums: %v, want %v", len(p.l), p.t, want)
		}
	}
}
