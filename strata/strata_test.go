package strata_test

import (
	"crypto/sha256"
	"encoding/binary"
	"encoding/hex"
	"math"
	"slices"
	"strconv"
	"testing"

	"tallyman/api"
	"tallyman/cell"
	"tallyman/set"
	"tallyman/strata"
	"tallyman/sum"
	"tallyman/table"
)

// levels and size are how many tables there are, and of how many cells each.
const levels, size = 10, 24

// nth is the sum of a number.
func nth(i int) sum.Sum {
	return sha256.Sum256(binary.LittleEndian.AppendUint64(nil, uint64(i)))
}

// from are as many sums, from the at-th on, as a set.
func from(at, n int) set.Set {
	var l set.Set
	for i := range n {
		l = append(l, nth(at+i))
	}
	return set.Of(l...)
}

// check tells a sum's check by the library.
func check(x sum.Sum) sum.Sum { return sha256.Sum256(append([]byte{67}, x[:]...)) }

// places tells a sum's places by the library.
func places(seed uint64, n int, x sum.Sum) []int {
	s := sha256.Sum256(append(binary.LittleEndian.AppendUint64([]byte{80}, seed), x[:]...))
	var l []int
	for i := range 3 {
		l = append(l, i*n/3+int(binary.LittleEndian.Uint64(s[8*i:])%uint64(n/3)))
	}
	return l
}

// level tells a sum's level by the library.
func level(x sum.Sum) int {
	s := sha256.Sum256(append([]byte{76}, x[:]...))
	word := binary.LittleEndian.Uint64(s[24:])
	for i := range levels - 1 {
		if word>>i&1 == 1 {
			return i
		}
	}
	return levels - 1
}

// lay lays a sum on a cell, count times.
func lay(c cell.Cell, count int64, x sum.Sum) cell.Cell {
	c.Count += count
	if count%2 != 0 {
		k := check(x)
		for i := range x {
			c.Key[i] ^= x[i]
			c.Check[i] ^= k[i]
		}
	}
	return c
}

// empty are tables with nothing in them.
func empty(seed uint64) strata.Strata {
	a := strata.Strata{Seed: seed}
	for range levels {
		a.L = append(a.L, table.Table{Seed: seed, L: make([]cell.Cell, size)})
	}
	return a
}

// clone tells the same in new memory.
func clone(a strata.Strata) strata.Strata {
	a.L = slices.Clone(a.L)
	for i := range a.L {
		a.L[i].L = slices.Clone(a.L[i].L)
	}
	return a
}

// put lays sums on the cells of their places at one level, count times.
func put(a strata.Strata, at int, count int64, l ...sum.Sum) strata.Strata {
	a = clone(a)
	t := a.L[at]
	for _, x := range l {
		for _, p := range places(t.Seed, len(t.L), x) {
			t.L[p] = lay(t.L[p], count, x)
		}
	}
	return a
}

// stick lays on a level what doesn't come out of it.
func stick(a strata.Strata, at int) strata.Strata {
	a = clone(a)
	a.L[at].L[7].Count += 2
	return a
}

// wantOf tells what Of makes of sums that are each there once.
func wantOf(seed uint64, l ...sum.Sum) strata.Strata {
	a := empty(seed)
	for _, x := range l {
		a = put(a, level(x), 1, x)
	}
	return a
}

// same tells whether one is another.
func same(a, b strata.Strata) bool {
	return a.Seed == b.Seed && slices.EqualFunc(a.L, b.L, func(s, t table.Table) bool {
		return s.Seed == t.Seed && slices.Equal(s.L, t.L)
	})
}

// digest tells all cells in one text.
func digest(a strata.Strata) string {
	var b []byte
	for _, t := range a.L {
		for _, c := range t.L {
			b = binary.LittleEndian.AppendUint64(b, uint64(c.Count))
			b = append(append(b, c.Key[:]...), c.Check[:]...)
		}
	}
	s := sha256.Sum256(b)
	return hex.EncodeToString(s[:])
}

// tell tells how many cells of each level are not nought.
func tell(a strata.Strata) string {
	text := strconv.FormatUint(a.Seed, 10) + ":"
	for _, t := range a.L {
		n := 0
		for _, c := range t.L {
			if c != (cell.Cell{}) {
				n++
			}
		}
		text += " " + strconv.Itoa(n)
	}
	return text
}

// isDiffer tells whether two are so unlike, the one way round and the other.
func isDiffer(t *testing.T, a, b strata.Strata, want int) {
	t.Helper()
	if got, err := strata.Differ(a, b); got != want || err != api.OK {
		t.Errorf("Differ of %s; %s: %d, %v, want %d", tell(a), tell(b), got, err, want)
	}
	if got, err := strata.Differ(b, a); got != want || err != api.OK {
		t.Errorf("Differ of %s; %s: %d, %v, want %d", tell(b), tell(a), got, err, want)
	}
}

// isNot tells whether two can't be told of.
func isNot(t *testing.T, a, b strata.Strata) {
	t.Helper()
	if got, err := strata.Differ(a, b); got != 0 || err != api.EARG {
		t.Errorf("Differ of %s; %s: %d, %v", tell(a), tell(b), got, err)
	}
	if got, err := strata.Differ(b, a); got != 0 || err != api.EARG {
		t.Errorf("Differ of %s; %s: %d, %v", tell(b), tell(a), got, err)
	}
}

// P17.1: the chapter's example.
func TestExample(t *testing.T) {
	for _, n := range []int{0, 1, 5, 100, 512} {
		for _, seed := range []uint64{0, 1, math.MaxUint64} {
			isDiffer(t, strata.Of(seed, from(3, n)), strata.Of(seed, from(3, n)), 0)
		}
	}
}

// P17.1: tables that were worked out elsewhere.
func TestOfKnown(t *testing.T) {
	for _, c := range []struct {
		seed  uint64
		at, n int
		want  string
	}{
		{0, 0, 0, "55ecc6e1af2de98d63e14a413199b378c013252b5d30ed742aec47414350b24d"},
		{0, 0, 1, "85aa092d171732ec49bad4f268d7a1801f8257d633b2dc30e4852f4dffb7b428"},
		{1, 5, 3, "37e4662e944c2a6df2036e01938ee429e755cd48329d56206e4ad7c31bbc5a1c"},
		{7, 0, 100, "8633f998d35c2303466dfb3b0f00c490fc4aadac1ad591e117f731e4a72f8963"},
		{math.MaxUint64, 0, 512, "36ac31a145c40af7e3775ed1de39e0467f6503b5e7a8fb324e9548517746c638"},
		{0x0102030405060708, 100, 700, "f5aae509ed84279f1d1ea97270978dd26c33eadae705bd2c52cce7f4f2e5f34b"},
	} {
		got := strata.Of(c.seed, from(c.at, c.n))
		if got.Seed != c.seed || len(got.L) != levels || digest(got) != c.want {
			t.Errorf("Of %d, %d from %d: %s, %s", c.seed, c.n, c.at, tell(got), digest(got))
		}
	}
}

// P17.1: Of puts a sum into the table of its own level, and nowhere else.
func TestOfOne(t *testing.T) {
	often := make([]int, levels)
	for i := range 1500 {
		x := nth(i)
		at := level(x)
		got := strata.Of(5, set.Set{x})
		if !same(got, put(empty(5), at, 1, x)) || !strata.Good(got) {
			t.Fatalf("Of 5, the %d-th, of level %d: %s", i, at, tell(got))
		}
		often[at]++
	}
	if slices.Contains(often, 0) {
		t.Errorf("of each level: %v", often)
	}
}

// P17.1: Of of any seed and as many sums as there may be, and more; all is Good.
func TestOfMany(t *testing.T) {
	for _, n := range []int{0, 1, 2, 30, 511, 512, 513, 600} {
		for _, seed := range []uint64{0, 1, 1 << 63, math.MaxUint64} {
			l := from(n, n)
			got := strata.Of(seed, l)
			if !same(got, wantOf(seed, l...)) || !strata.Good(got) {
				t.Errorf("Of %d, %d: %s", seed, n, tell(got))
			}
		}
	}
	if !same(strata.Of(4, nil), empty(4)) || !same(strata.Of(4, set.Set{}), empty(4)) {
		t.Errorf("Of nothing: %s", tell(strata.Of(4, nil)))
	}
}

// P17.1: Of of what is not Good puts each sum in once.
func TestOfNot(t *testing.T) {
	up := from(0, 40)
	down := slices.Clone(up)
	slices.Reverse(down)
	for _, l := range []set.Set{down, slices.Concat(up, down), slices.Concat(up, up, up[:3]), slices.Concat(up[20:], up)} {
		if got := strata.Of(6, l); !same(got, wantOf(6, up...)) {
			t.Errorf("Of %d sums: %s", len(l), tell(got))
		}
	}
	x := up[0]
	if got := strata.Of(6, set.Set{x, x}); !same(got, wantOf(6, x)) {
		t.Errorf("Of one twice: %s", tell(got))
	}
}

// P17.1: Good asks for Levels tables.
func TestGoodLevels(t *testing.T) {
	for n := range 40 {
		a := strata.Strata{Seed: 3}
		for range n {
			a.L = append(a.L, table.Table{Seed: 3, L: make([]cell.Cell, size)})
		}
		if got := strata.Good(a); got != (n == levels) {
			t.Errorf("Good of %d tables: %v", n, got)
		}
		if n != levels {
			isNot(t, a, empty(3))
			isNot(t, a, a)
		}
	}
	if strata.Good(strata.Strata{}) {
		t.Errorf("Good of nothing")
	}
}

// P17.1: Good asks each table for LevelSize cells; others, Good or not, may not be.
func TestGoodSize(t *testing.T) {
	for at := range levels {
		for _, n := range []int{0, 1, 3, 12, 21, 22, 23, 24, 25, 26, 27, 48, 1023, 1026} {
			a := empty(3)
			a.L[at].L = make([]cell.Cell, n)
			if got := strata.Good(a); got != (n == size) {
				t.Errorf("Good of %d cells at level %d: %v", n, at, got)
			}
			if n != size {
				isNot(t, a, empty(3))
				isNot(t, a, a)
			}
		}
	}
	for _, n := range []int{12, 27} {
		a := empty(3)
		for at := range a.L {
			a.L[at].L = make([]cell.Cell, n)
		}
		if strata.Good(a) {
			t.Errorf("Good of %d cells at each level", n)
		}
		isNot(t, a, a)
	}
}

// P17.1: Good asks each table for the one Seed.
func TestGoodSeed(t *testing.T) {
	for at := range levels {
		for bit := range 64 {
			a := empty(0x0102030405060708)
			a.L[at].Seed ^= 1 << bit
			if strata.Good(a) {
				t.Errorf("Good of another Seed at level %d", at)
			}
			isNot(t, a, empty(0x0102030405060708))
			isNot(t, a, a)
		}
	}
	a := empty(3)
	a.Seed = 4
	if strata.Good(a) {
		t.Errorf("Good of another Seed than each table's")
	}
	isNot(t, a, a)
}

// P17.1: Good asks nothing of what is in the cells.
func TestGoodCells(t *testing.T) {
	for _, seed := range []uint64{0, 1, math.MaxUint64} {
		if a := strange(seed); !strata.Good(a) {
			t.Errorf("Good of %s", tell(a))
		}
	}
}

// strange are tables such as no set makes.
func strange(seed uint64) strata.Strata {
	a := empty(seed)
	counts := []int64{0, 1, -1, 3, math.MaxInt64, math.MinInt64, 1 << 32}
	for i := range a.L {
		for j := range a.L[i].L {
			key := nth(100*i + j)
			a.L[i].L[j] = cell.Cell{Count: counts[(i+j)%len(counts)], Key: key, Check: nth(5000 + j)}
		}
	}
	return a
}
