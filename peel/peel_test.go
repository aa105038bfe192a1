package peel_test

import (
	"crypto/sha256"
	"encoding/binary"
	"math"
	"slices"
	"strconv"
	"testing"

	"tallyman/api"
	"tallyman/cell"
	"tallyman/peel"
	"tallyman/set"
	"tallyman/sum"
	"tallyman/table"
)

// one is the sum of a text.
func one(text string) sum.Sum { return sha256.Sum256([]byte(text)) }

// nth is the sum of a number.
func nth(i int) sum.Sum {
	return sha256.Sum256(binary.LittleEndian.AppendUint64(nil, uint64(i)))
}

// from are as many sums, from the at-th on, as a set.
func from(at, n int) set.Set {
	var l set.Set
	for i := range n {
		l = append(l, nth(at+i))
	}
	return set.Of(l...)
}

// check tells a sum's check by the library.
func check(x sum.Sum) sum.Sum { return sha256.Sum256(append([]byte{67}, x[:]...)) }

// places tells a sum's places by the library.
func places(seed uint64, n int, x sum.Sum) []int {
	s := sha256.Sum256(append(binary.LittleEndian.AppendUint64([]byte{80}, seed), x[:]...))
	var l []int
	for i := range 3 {
		l = append(l, i*n/3+int(binary.LittleEndian.Uint64(s[8*i:])%uint64(n/3)))
	}
	return l
}

// lay lays a sum on a cell, count times.
func lay(c cell.Cell, count int64, x sum.Sum) cell.Cell {
	c.Count += count
	if count%2 != 0 {
		k := check(x)
		for i := range x {
			c.Key[i] ^= x[i]
			c.Check[i] ^= k[i]
		}
	}
	return c
}

// alone is a cell with one sum.
func alone(count int64, x sum.Sum) cell.Cell { return cell.Cell{Count: count, Key: x, Check: check(x)} }

// put lays a sum on each cell of its places, count times, in new memory.
func put(t table.Table, count int64, l ...sum.Sum) table.Table {
	t.L = slices.Clone(t.L)
	for _, x := range l {
		for _, p := range places(t.Seed, len(t.L), x) {
			t.L[p] = lay(t.L[p], count, x)
		}
	}
	return t
}

// empty is a table with nothing in it.
func empty(seed uint64, n int) table.Table { return table.Table{Seed: seed, L: make([]cell.Cell, n)} }

// diff is the table of what one has more and what it has less.
func diff(seed uint64, n int, plus, minus []sum.Sum) table.Table {
	return put(put(empty(seed, n), 1, plus...), -1, minus...)
}

// tell tells which cells of a table are not nought, and their counts.
func tell(t table.Table) string {
	text := strconv.FormatUint(t.Seed, 10) + ", " + strconv.Itoa(len(t.L)) + " cells:"
	for i, c := range t.L {
		if c != (cell.Cell{}) && len(text) < 200 {
			text += " " + strconv.Itoa(i) + "=" + strconv.FormatInt(c.Count, 10)
		}
	}
	return text
}

// same tells whether a table is another.
func same(a, b table.Table) bool { return a.Seed == b.Seed && slices.Equal(a.L, b.L) }

// bad are numbers of cells that may not be.
func bad() []int { return []int{0, 1, 2, 4, 5, 7, 1021, 1022, 1024, 1025, 1026, 1029, 3072} }

// good are numbers of cells that may be, the least and the most too.
func good() []int { return []int{3, 6, 9, 12, 24, 510, 1020, 1023} }

// isAll tells whether just that comes out of a table, and nothing is left.
func isAll(t *testing.T, a table.Table, plus, minus []sum.Sum) {
	t.Helper()
	got, err := peel.All(a)
	if err != api.OK || !slices.Equal(got.Plus, set.Of(plus...)) || !slices.Equal(got.Minus, set.Of(minus...)) {
		t.Errorf("of %d cells: %d, %d, %v, want %d, %d", len(a.L), len(got.Plus), len(got.Minus), err, len(plus), len(minus))
	}
	if !same(got.Left, empty(a.Seed, len(a.L))) {
		t.Errorf("of %d cells: %s is left", len(a.L), tell(got.Left))
	}
}

// isLeft tells whether a table can't be told apart, and what is left of it.
func isLeft(t *testing.T, a, left table.Table) {
	t.Helper()
	got, err := peel.All(a)
	if err != api.EPEEL || len(got.Plus) > 0 || len(got.Minus) > 0 {
		t.Errorf("of %d cells: %d, %d, %v", len(a.L), len(got.Plus), len(got.Minus), err)
	}
	if !same(got.Left, left) {
		t.Errorf("of %d cells: %s is left, want %s", len(a.L), tell(got.Left), tell(left))
	}
}

// P16.1: the chapter's example.
func TestExample(t *testing.T) {
	x, y, z := one("x"), one("y"), one("z")
	for _, n := range good() {
		// In three cells, or six, z and x may lie on each other.
		a := put(empty(1, n), 1, x, y)
		theirs, ours, err := peel.Own(a, set.Of(y, z))
		if n < 9 && err == api.EPEEL {
			continue
		}
		if err != api.OK || !slices.Equal(theirs, set.Set{x}) || !slices.Equal(ours, set.Set{z}) {
			t.Errorf("of %d cells: %v, %v, %v", n, theirs, ours, err)
		}
	}
}

// P16.1: All of nothing, and of one sum on either side.
func TestAllOne(t *testing.T) {
	for _, n := range good() {
		for _, seed := range []uint64{0, 1, 7, math.MaxUint64} {
			isAll(t, empty(seed, n), nil, nil)
			for _, x := range []sum.Sum{{}, {1}, {31: 128}, one("a"), one("b"), check(sum.Sum{})} {
				isAll(t, diff(seed, n, []sum.Sum{x}, nil), []sum.Sum{x}, nil)
				isAll(t, diff(seed, n, nil, []sum.Sum{x}), nil, []sum.Sum{x})
			}
		}
	}
}

// P16.1: All of few in many cells, each on its side, in order.
func TestAllMany(t *testing.T) {
	for n := 99; n <= 1023; n += 132 {
		for _, few := range []struct{ plus, minus int }{{0, n / 3}, {n / 3, 0}, {n / 6, n / 6}, {1, n / 4}, {n / 5, 2}} {
			for seed := range uint64(3) {
				plus, minus := from(n, few.plus), from(n+2000, few.minus)
				isAll(t, diff(seed, n, plus, minus), plus, minus)
			}
		}
	}
}

// tall makes a set above MaxSet, each of whose sums has a cell that those ahead
// of it have not: so that they come out from the last to the first.
func tall(seed uint64, n, most int) set.Set {
	var l set.Set
	taken := make([]bool, n)
	for i := 0; len(l) < most; i++ {
		x := nth(i)
		var fresh []int
		for _, p := range places(seed, n, x) {
			if !taken[p] {
				fresh = append(fresh, p)
			}
		}
		if len(fresh) == 1 || len(fresh) > 0 && len(l) < n/8 {
			for _, p := range fresh {
				taken[p] = true
			}
			l = append(l, x)
		}
	}
	return l
}

// P16.1: more come out than may be in a set: All tells them all.
func TestAllTall(t *testing.T) {
	l := tall(3, 1023, 700)
	isAll(t, diff(3, 1023, l, nil), l, nil)
	isAll(t, diff(3, 1023, nil, l), nil, l)
	isAll(t, diff(3, 1023, l[:100], l[100:]), l[:100], l[100:])
	theirs, ours, err := peel.Own(diff(3, 1023, l, nil), nil)
	if err != api.OK || !slices.Equal(theirs, set.Of(l...)) || len(ours) > 0 {
		t.Errorf("Own: %d, %d, %v", len(theirs), len(ours), err)
	}
	theirs, ours, err = peel.Own(empty(3, 1023), set.Of(l[:512]...))
	if err != api.OK || len(theirs) > 0 || !slices.Equal(ours, set.Of(l[:512]...)) {
		t.Errorf("Own of nothing: %d, %d, %v", len(theirs), len(ours), err)
	}
}

// P16.1: All of what is not Good, whatever is in it.
func TestAllNot(t *testing.T) {
	for _, n := range bad() {
		a := empty(1, n)
		b := empty(1, n)
		for i := range b.L {
			b.L[i] = alone(1, one("a"))
		}
		for _, x := range []table.Table{a, b} {
			got, err := peel.All(x)
			if err != api.EARG || len(got.Plus) > 0 || len(got.Minus) > 0 || got.Left.Seed != 0 || len(got.Left.L) > 0 {
				t.Errorf("of %d cells: %d, %d, %s, %v", n, len(got.Plus), len(got.Minus), tell(got.Left), err)
			}
			theirs, ours, err := peel.Own(x, set.Of(one("a")))
			if err != api.EARG || len(theirs) > 0 || len(ours) > 0 {
				t.Errorf("Own of %d cells: %v, %v, %v", n, theirs, ours, err)
			}
		}
	}
}

// P16.1: two that lie on each other at every place stay; what lies apart comes
// out all the same, but is not told.
func TestAllLeft(t *testing.T) {
	isLeft(t, diff(5, 3, from(0, 2), nil), diff(5, 3, from(0, 2), nil))
	isLeft(t, diff(5, 3, nil, from(0, 2)), diff(5, 3, nil, from(0, 2)))
	isLeft(t, diff(5, 3, from(0, 1), from(1, 1)), diff(5, 3, from(0, 1), from(1, 1)))
	for _, n := range []int{6, 12, 30} {
		x := nth(0)
		i := 1
		for !slices.Equal(places(5, n, nth(i)), places(5, n, x)) {
			i++
		}
		y := nth(i)
		for !apart(places(5, n, nth(i)), places(5, n, x)) {
			i++
		}
		z := nth(i)
		isLeft(t, diff(5, n, []sum.Sum{x, y, z}, nil), diff(5, n, []sum.Sum{x, y}, nil))
		isLeft(t, diff(5, n, []sum.Sum{x, z}, []sum.Sum{y}), diff(5, n, []sum.Sum{x}, []sum.Sum{y}))
		isLeft(t, diff(5, n, []sum.Sum{x}, []sum.Sum{y, z}), diff(5, n, []sum.Sum{x}, []sum.Sum{y}))
		isLeft(t, diff(5, n, nil, []sum.Sum{x, y, z}), diff(5, n, nil, []sum.Sum{x, y}))
	}
}

// apart tells whether two have no place of both.
func apart(a, b []int) bool {
	return !slices.ContainsFunc(a, func(p int) bool { return slices.Contains(b, p) })
}

// P16.1: a sum that is alone where it doesn't belong does not come out there.
func TestAllPlace(t *testing.T) {
	x := one("x")
	for _, n := range []int{6, 12, 1023} {
		mine := places(9, n, x)
		for at := range n {
			a := empty(9, n)
			a.L[at] = alone(1, x)
			got, err := peel.All(a)
			if err != api.EPEEL || len(got.Plus) > 0 || len(got.Minus) > 0 {
				t.Errorf("of x at %d of %d: %v, %v, %v", at, n, got.Plus, got.Minus, err)
			}
			if !slices.Contains(mine, at) {
				isLeft(t, a, a)
				b := put(a, -1, x)
				isLeft(t, b, a)
			}
		}
	}
}

// P16.1: what no sum makes is left as it is.
func TestAllStrange(t *testing.T) {
	x := one("x")
	for _, c := range []cell.Cell{{Count: 1}, {Count: -1}, {Count: 2}, {Key: x}, {Check: x}, {Count: 1, Key: x}, {Count: 3, Key: x, Check: check(x)}, {Count: math.MinInt64}, {Key: x, Check: check(x)}} {
		for _, n := range []int{3, 12, 1023} {
			for _, at := range []int{0, n / 2, n - 1} {
				a := empty(4, n)
				a.L[at] = c
				isLeft(t, a, a)
			}
		}
	}
}

// P16.1: a sum that stands at one of its places alone comes out again and
// again: it is left behind the 1025th time.
func TestAllEnds(t *testing.T) {
	x := one("x")
	for _, n := range []int{3, 12, 1023} {
		for i, at := range places(2, n, x) {
			for _, count := range []int64{1, -1} {
				a := empty(2, n)
				a.L[at] = alone(count, x)
				isLeft(t, a, put(a, -count, x))
				b := empty(2, n)
				for j, p := range places(2, n, x) {
					if j != i {
						b.L[p] = alone(count, x)
					}
				}
				isLeft(t, b, put(b, -count, x))
			}
		}
	}
}

// P16.1: Own of two sets tells what they differ by, or that it can't.
func TestOwn(t *testing.T) {
	for _, c := range []struct{ a, b, both, n int }{
		{0, 0, 0, 3}, {0, 0, 500, 3}, {0, 0, 512, 1023}, {1, 0, 0, 3}, {0, 1, 300, 3}, {1, 0, 511, 6},
		{3, 3, 500, 60}, {20, 0, 490, 120}, {0, 20, 490, 120}, {100, 100, 400, 600}, {256, 256, 256, 1023}, {300, 200, 0, 1023},
	} {
		for seed := range uint64(4) {
			more, less, both := from(0, c.a), from(1000, c.b), from(2000, c.both)
			theirs, ours, err := peel.Own(put(put(empty(seed, c.n), 1, more...), 1, both...), set.Either(less, both))
			if err != api.OK || !slices.Equal(theirs, more) || !slices.Equal(ours, less) {
				t.Errorf("%v: %d, %d, %v", c, len(theirs), len(ours), err)
			}
		}
	}
}

// P16.1: Own of a set that is not Good.
func TestOwnNot(t *testing.T) {
	up := from(0, 3)
	down := slices.Clone(up)
	slices.Reverse(down)
	for _, mine := range []set.Set{down, {up[0], up[0]}, {up[0], up[2], up[1]}, from(0, 513)} {
		for _, a := range []table.Table{empty(1, 3), put(empty(1, 1023), 1, mine...), empty(1, 4)} {
			if theirs, ours, err := peel.Own(a, mine); err != api.EARG || len(theirs) > 0 || len(ours) > 0 {
				t.Errorf("Own of %d cells, %d sums: %v, %v, %v", len(a.L), len(mine), theirs, ours, err)
			}
		}
	}
}

// P16.1: Own of a table that no set makes: with one of mine in it once more, or
// with one less that isn't mine.
func TestOwnNoSet(t *testing.T) {
	mine := from(0, 5)
	for _, n := range []int{60, 1023} {
		whole := put(empty(6, n), 1, mine...)
		for _, a := range []table.Table{
			put(whole, 1, mine[2]), put(whole, -1, nth(9)), put(put(whole, 1, mine[0]), 1, nth(7)),
			put(put(whole, -1, nth(9)), -1, mine[1]), put(put(whole, 1, mine[4]), -1, nth(9)),
		} {
			if theirs, ours, err := peel.Own(a, mine); err != api.EPEEL || len(theirs) > 0 || len(ours) > 0 {
				t.Errorf("of %d cells: %v, %v, %v", n, theirs, ours, err)
			}
		}
		theirs, ours, err := peel.Own(put(put(whole, -1, mine[1]), 1, nth(9)), mine)
		if err != api.OK || !slices.Equal(theirs, set.Set{nth(9)}) || !slices.Equal(ours, set.Set{mine[1]}) {
			t.Errorf("of %d cells: %v, %v, %v", n, theirs, ours, err)
		}
	}
}

// P16.1: Own of a table too small is EPEEL, as All of what they differ by is.
func TestOwnSmall(t *testing.T) {
	for _, n := range []int{3, 6, 12, 24} {
		a := put(empty(8, n), 1, from(0, 100)...)
		for _, mine := range []set.Set{nil, from(100, 100), from(50, 100)} {
			if theirs, ours, err := peel.Own(a, mine); err != api.EPEEL || len(theirs) > 0 || len(ours) > 0 {
				t.Errorf("of %d cells, %d: %d, %d, %v", n, len(mine), len(theirs), len(ours), err)
			}
		}
	}
}
