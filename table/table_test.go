package table_test

import (
	"crypto/sha256"
	"encoding/binary"
	"encoding/hex"
	"math"
	"slices"
	"testing"

	"tallyman/api"
	"tallyman/cell"
	"tallyman/set"
	"tallyman/sum"
	"tallyman/table"
)

// one is the sum of a text.
func one(text string) sum.Sum { return sha256.Sum256([]byte(text)) }

// full is the sum all of whose bits are 1.
func full() sum.Sum {
	var x sum.Sum
	for i := range x {
		x[i] = 255
	}
	return x
}

// some are sums of many kinds: all noughts, all ones, one bit alone, any.
func some() []sum.Sum {
	return []sum.Sum{{}, {1}, {31: 128}, full(), one("a"), one("b"), wantCheck(sum.Sum{})}
}

// first are as many sums, of texts of one byte, and of two behind those.
func first(n int) set.Set {
	var l set.Set
	for i := range n {
		text := []byte{byte(i)}
		if i > 255 {
			text = []byte{byte(i >> 8), byte(i)}
		}
		l = append(l, sha256.Sum256(text))
	}
	return l
}

// bad are numbers of cells that may not be, such as a list can have.
func bad() []int { return []int{0, 1, 2, 4, 5, 7, 1021, 1022, 1024, 1025, 1026, 1029, 2046, 3072} }

// good are numbers of cells that may be, the least and the most too.
func good() []int { return []int{3, 6, 9, 12, 24, 510, 1020, 1023} }

// wantCheck tells a sum's check by the library.
func wantCheck(x sum.Sum) sum.Sum { return sha256.Sum256(append([]byte{67}, x[:]...)) }

// xor puts two sums together, byte by byte.
func xor(x, y sum.Sum) sum.Sum {
	for i := range x {
		x[i] ^= y[i]
	}
	return x
}

// wantPlaces tells a sum's places by the library.
func wantPlaces(seed uint64, n int, x sum.Sum) []int {
	s := sha256.Sum256(append(binary.LittleEndian.AppendUint64([]byte{80}, seed), x[:]...))
	var l []int
	for i := range 3 {
		l = append(l, i*n/3+int(binary.LittleEndian.Uint64(s[8*i:])%uint64(n/3)))
	}
	return l
}

// wantLaid tells a table's cells with a sum on them, by the document's words.
func wantLaid(t table.Table, count int64, x sum.Sum) []cell.Cell {
	l := slices.Clone(t.L)
	for _, p := range wantPlaces(t.Seed, len(l), x) {
		l[p] = cell.Cell{Count: l[p].Count + count, Key: xor(l[p].Key, x), Check: xor(l[p].Check, wantCheck(x))}
	}
	return l
}

// same tells whether a table is of a seed and of cells.
func same(t table.Table, seed uint64, l []cell.Cell) bool {
	return t.Seed == seed && slices.Equal(t.L, l)
}

// none tells whether a table is as nobody made one.
func none(t table.Table) bool { return t.Seed == 0 && len(t.L) == 0 }

// of is table.Of where it may be.
func of(t *testing.T, seed uint64, n int, l ...sum.Sum) table.Table {
	t.Helper()
	got, err := table.Of(seed, n, l)
	if err != api.OK || got.Seed != seed || len(got.L) != n {
		t.Fatalf("Of %d, %d: seed %d, %d cells, %v", seed, n, got.Seed, len(got.L), err)
	}
	return got
}

// odd makes a table of cells of any kind, such too as no Put makes.
func odd(seed uint64, n int) table.Table {
	t := table.Table{Seed: seed}
	counts := []int64{0, 1, -1, 3, math.MaxInt64, math.MinInt64, 1 << 32}
	for i := range n {
		key := sha256.Sum256(binary.LittleEndian.AppendUint64([]byte{byte(seed)}, uint64(i)))
		t.L = append(t.L, cell.Cell{Count: counts[i%len(counts)], Key: key, Check: sha256.Sum256(key[:])})
	}
	return t
}

// digest tells a table's cells in one text.
func digest(t table.Table) string {
	var b []byte
	for _, c := range t.L {
		b = binary.LittleEndian.AppendUint64(b, uint64(c.Count))
		b = append(append(b, c.Key[:]...), c.Check[:]...)
	}
	s := sha256.Sum256(b)
	return hex.EncodeToString(s[:])
}

// P15.1: the chapter's example.
func TestExample(t *testing.T) {
	for _, n := range good() {
		for _, x := range some() {
			got, err := table.Minus(of(t, 7, n, x), of(t, 7, n, x))
			if err != api.OK || !table.Zero(got) || table.Count(got) != 0 || len(got.L) != n {
				t.Errorf("%d cells, %s: %v, %v", n, x.Text(), got, err)
			}
		}
	}
}

// P15.1: cells that were worked out elsewhere.
func TestOfKnown(t *testing.T) {
	for _, c := range []struct {
		seed uint64
		n    int
		l    []sum.Sum
		want string
	}{
		{5, 12, nil, "0ed9e26c3f1435e498beb2369bdf5a04a7fe4f0e302068ef2c308e1ff872b5f7"},
		{0, 3, []sum.Sum{one("abc")}, "953f1cc54f2b03a68215717962123a898ea097905b10de21ff943e8d3266d8ed"},
		{1, 24, []sum.Sum{one("abc")}, "2da142bf548aea1d6eb6bba73a8deff6afb781764485a10d8c59552cf01b1c96"},
		{7, 6, []sum.Sum{one("a"), one("b"), one("c")}, "6cb0bfc20579056b0510beb91bf48da50a0c7ff9ef95bd0f0900e822b49b99f7"},
		{math.MaxUint64, 1023, first(256), "44b00bb537bca305e00f0678bc84ba68ec58437438ab8107a2da6421e11eeb7d"},
		{0x0102030405060708, 30, first(200), "aaac7a2b950b5d29596bad6d388b5cf919568f7da4cfb06dead15c244960075f"},
	} {
		got := of(t, c.seed, c.n, c.l...)
		if digest(got) != c.want || table.Count(got) != int64(len(c.l)) {
			t.Errorf("Of %d, %d, %d sums: %s, Count %d", c.seed, c.n, len(c.l), digest(got), table.Count(got))
		}
	}
}

// P15.1: New of each number that may be, and of those that may not.
func TestNew(t *testing.T) {
	for n := 3; n <= 1023; n += 3 {
		for _, seed := range []uint64{0, 1, math.MaxUint64} {
			got, err := table.New(seed, n)
			if err != api.OK || !same(got, seed, make([]cell.Cell, n)) || !table.Good(got) || !table.Zero(got) {
				t.Errorf("New %d, %d: %v, %v", seed, n, got, err)
			}
		}
	}
	for _, n := range append(bad(), -1, -3, -1023, 1<<32+3, math.MaxInt, math.MaxInt-1, math.MinInt, math.MinInt+2) {
		if got, err := table.New(9, n); err != api.EARG || !none(got) {
			t.Errorf("New 9, %d: %v, %v", n, got, err)
		}
	}
}

// P15.1: Good of each number of cells, whatever is in them.
func TestGood(t *testing.T) {
	for n := range 1100 {
		want := n >= 3 && n <= 1023 && n%3 == 0
		if got := table.Good(table.Table{Seed: uint64(n), L: make([]cell.Cell, n)}); got != want {
			t.Errorf("Good of %d cells: %v", n, got)
		}
		if got := table.Good(odd(3, n)); got != want {
			t.Errorf("Good of %d cells of any kind: %v", n, got)
		}
	}
	if table.Good(table.Table{}) || table.Good(table.Table{Seed: 3}) {
		t.Errorf("Good of no cells")
	}
}

// P15.1: Put and Take of any table, any sum: the cells of its places, by the
// table's own Seed, and no other.
func TestPutTake(t *testing.T) {
	for _, n := range good() {
		for _, seed := range []uint64{0, 1, 1 << 63, math.MaxUint64} {
			for _, x := range some() {
				was := odd(seed, n)
				if got := table.Put(was, x); !same(got, seed, wantLaid(was, 1, x)) {
					t.Errorf("Put %d, %d, %s", seed, n, x.Text())
				}
				if got := table.Take(was, x); !same(got, seed, wantLaid(was, -1, x)) {
					t.Errorf("Take %d, %d, %s", seed, n, x.Text())
				}
				if got := table.Take(table.Put(was, x), x); !same(got, seed, was.L) {
					t.Errorf("Put and Take %d, %d, %s", seed, n, x.Text())
				}
			}
		}
	}
}

// P15.1: a sum lies in a table as often as it is put in.
func TestPutTwice(t *testing.T) {
	x := one("a")
	got := table.Put(table.Put(of(t, 4, 6), x), x)
	for _, p := range wantPlaces(4, 6, x) {
		if got.L[p] != (cell.Cell{Count: 2}) {
			t.Errorf("cell %d: %v", p, got.L[p])
		}
	}
	if table.Count(got) != 2 || table.Zero(got) {
		t.Errorf("Count %d, Zero %v", table.Count(got), table.Zero(got))
	}
	if got = table.Take(of(t, 4, 6), x); table.Count(got) != -1 || table.Zero(got) {
		t.Errorf("taken out of nothing: Count %d, Zero %v", table.Count(got), table.Zero(got))
	}
}

// P15.1: Put and Take of what is not Good tell it as it is.
func TestPutTakeNot(t *testing.T) {
	for _, n := range bad() {
		for _, x := range some() {
			was := odd(11, n)
			if got := table.Put(was, x); !same(got, 11, odd(11, n).L) {
				t.Errorf("Put into %d cells: %v", n, got)
			}
			if got := table.Take(was, x); !same(got, 11, odd(11, n).L) {
				t.Errorf("Take out of %d cells: %v", n, got)
			}
		}
	}
}

// P15.1: Of in whatever order, each once, and above MaxSet too.
func TestOf(t *testing.T) {
	for _, n := range good() {
		for _, k := range []int{0, 1, 2, 3, 50, api.MaxSet, api.MaxSet + 1, 600} {
			l := first(k)
			want := table.Table{Seed: 3, L: make([]cell.Cell, n)}
			for _, x := range l {
				want.L = wantLaid(want, 1, x)
			}
			twice := append(slices.Clone(l), l...)
			slices.Reverse(twice)
			for _, s := range []set.Set{l, set.Of(l...), twice} {
				if got := of(t, 3, n, s...); !same(got, 3, want.L) || table.Count(got) != int64(k) {
					t.Errorf("Of %d cells, %d sums (%d): Count %d", n, k, len(s), table.Count(got))
				}
			}
		}
	}
}

// P15.1: Of is New, and Put of each.
func TestOfPut(t *testing.T) {
	for _, seed := range []uint64{0, 1, math.MaxUint64} {
		want, _ := table.New(seed, 30)
		for _, x := range some() {
			want = table.Put(want, x)
		}
		if got := of(t, seed, 30, some()...); !same(got, seed, want.L) {
			t.Errorf("Of %d: %v, want %v", seed, got, want)
		}
	}
	if a, b := of(t, 1, 30, some()...), of(t, 2, 30, some()...); slices.Equal(a.L, b.L) {
		t.Errorf("of two seeds: the same cells")
	}
}

// P15.1: Of a number of cells that may not be.
func TestOfNot(t *testing.T) {
	for _, n := range append(bad(), -1, -3, -1023, math.MaxInt, math.MinInt) {
		for _, s := range []set.Set{nil, some(), first(600)} {
			if got, err := table.Of(9, n, s); err != api.EARG || !none(got) {
				t.Errorf("Of 9, %d, %d sums: %v, %v", n, len(s), got, err)
			}
		}
	}
}

// P15.1: Minus of any two, cell by cell.
func TestMinus(t *testing.T) {
	for _, n := range good() {
		a, b := odd(5, n), odd(6, n)
		slices.Reverse(b.L)
		b.Seed = a.Seed
		want := make([]cell.Cell, n)
		for i := range want {
			want[i] = cell.Cell{Count: a.L[i].Count - b.L[i].Count, Key: xor(a.L[i].Key, b.L[i].Key), Check: xor(a.L[i].Check, b.L[i].Check)}
		}
		if got, err := table.Minus(a, b); err != api.OK || !same(got, 5, want) {
			t.Errorf("Minus of %d cells: %v", n, err)
		}
		if got, err := table.Minus(a, a); err != api.OK || !same(got, 5, make([]cell.Cell, n)) || !table.Zero(got) {
			t.Errorf("Minus of %d cells, itself: %v", n, err)
		}
	}
}

// P15.1: Minus of two sets' tables: what the one has, less what the other has.
func TestMinusSets(t *testing.T) {
	l := first(40)
	want := of(t, 8, 24, l[:10]...)
	for _, x := range l[30:] {
		want = table.Take(want, x)
	}
	got, err := table.Minus(of(t, 8, 24, l[:30]...), of(t, 8, 24, l[10:]...))
	if err != api.OK || !same(got, 8, want.L) || table.Count(got) != 0 || table.Zero(got) {
		t.Errorf("%v, Count %d, Zero %v", err, table.Count(got), table.Zero(got))
	}
}

// P15.1: Minus of two that are unlike, or not Good.
func TestMinusNot(t *testing.T) {
	for _, c := range []struct{ a, b table.Table }{
		{odd(1, 3), odd(2, 3)}, {odd(0, 3), odd(1<<63, 3)}, {odd(1, 1023), odd(1<<32+1, 1023)},
		{odd(1, 3), odd(1, 6)}, {odd(1, 6), odd(1, 3)}, {odd(1, 1020), odd(1, 1023)},
		{odd(1, 6), odd(2, 3)}, {odd(1, 3), table.Table{Seed: 1}}, {table.Table{}, table.Table{}},
		{table.Table{Seed: 1}, odd(1, 3)},
	} {
		if got, err := table.Minus(c.a, c.b); err != api.EARG || !none(got) {
			t.Errorf("Minus of %d, %d cells and %d, %d: %v, %v", c.a.Seed, len(c.a.L), c.b.Seed, len(c.b.L), got, err)
		}
	}
	for _, n := range bad() {
		for _, c := range []struct{ a, b table.Table }{{odd(1, n), odd(1, n)}, {odd(1, n), odd(1, 3)}, {odd(1, 3), odd(1, n)}, {odd(1, n), odd(2, n)}} {
			if got, err := table.Minus(c.a, c.b); err != api.EARG || !none(got) {
				t.Errorf("Minus of %d and %d cells: %v, %v", len(c.a.L), len(c.b.L), got, err)
			}
		}
	}
}

// P15.1: Zero of a table with one thing in one cell; of what is not Good.
func TestZero(t *testing.T) {
	for _, n := range good() {
		for _, c := range []cell.Cell{{Count: 1}, {Count: -1}, {Count: math.MinInt64}, {Key: sum.Sum{31: 1}}, {Check: sum.Sum{1}}} {
			for at := range n {
				l := make([]cell.Cell, n)
				l[at] = c
				if table.Zero(table.Table{L: l}) {
					t.Errorf("Zero of %v at %d of %d", c, at, n)
				}
			}
		}
		if !table.Zero(table.Table{Seed: 77, L: make([]cell.Cell, n)}) {
			t.Errorf("Zero of %d cells", n)
		}
	}
	for _, n := range bad() {
		if table.Zero(table.Table{L: make([]cell.Cell, n)}) {
			t.Errorf("Zero of %d cells, none of them anything", n)
		}
	}
}

// P15.1: Count is of the first part alone.
func TestCount(t *testing.T) {
	for _, n := range good() {
		for at := range n {
			l := make([]cell.Cell, n)
			l[at].Count = 5
			want := int64(0)
			if at < n/3 {
				want = 5
			}
			if got := table.Count(table.Table{L: l}); got != want {
				t.Errorf("Count of 5 at %d of %d: %d", at, n, got)
			}
		}
	}
	for _, n := range bad() {
		l := make([]cell.Cell, n)
		for i := range l {
			l[i].Count = 1
		}
		if got := table.Count(table.Table{L: l}); got != 0 {
			t.Errorf("Count of %d cells: %d", n, got)
		}
	}
}

// P15.1: Count as Go reckons: it wraps round.
func TestCountWraps(t *testing.T) {
	for _, c := range []struct{ a, b, d, want int64 }{
		{1, 2, 3, 6}, {-1, -2, 2, -1}, {math.MaxInt64, 1, 0, math.MinInt64}, {math.MinInt64, -1, 0, math.MaxInt64},
		{math.MaxInt64, math.MaxInt64, 3, 1}, {math.MinInt64, math.MinInt64, -4, -4}, {1 << 32, 1 << 32, 1, 1<<33 + 1},
	} {
		l := make([]cell.Cell, 9)
		l[0].Count, l[1].Count, l[2].Count, l[3].Count, l[8].Count = c.a, c.b, c.d, 100, 1000
		if got := table.Count(table.Table{L: l}); got != c.want {
			t.Errorf("Count of %d, %d, %d: %d, want %d", c.a, c.b, c.d, got, c.want)
		}
	}
}
