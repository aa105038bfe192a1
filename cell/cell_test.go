package cell_test

import (
	"crypto/sha256"
	"math"
	"testing"

	"tallyman/cell"
	"tallyman/sum"
)

// some are sums of many kinds: all noughts, all ones, one bit alone, any.
func some() []sum.Sum {
	l := []sum.Sum{{}, {1}, {31: 1}, {128}, {31: 128}, full(), count(), sha256.Sum256([]byte("abc"))}
	// A sum that is another one's check is one as any other.
	return append(l, wantOf(sum.Sum{}), wantOf(count()))
}

// full is the sum all of whose bits are 1.
func full() sum.Sum {
	var x sum.Sum
	for i := range x {
		x[i] = 255
	}
	return x
}

// count is the sum of the bytes 0, 1, 2, .. 31.
func count() sum.Sum {
	var x sum.Sum
	for i := range x {
		x[i] = byte(i)
	}
	return x
}

// wantOf tells a sum's check by the library.
func wantOf(x sum.Sum) sum.Sum { return sha256.Sum256(append([]byte{67}, x[:]...)) }

// xor puts sums together, byte by byte.
func xor(l ...sum.Sum) sum.Sum {
	var x sum.Sum
	for _, y := range l {
		for i := range x {
			x[i] ^= y[i]
		}
	}
	return x
}

// text reads a sum's digits.
func text(t *testing.T, digits string) sum.Sum {
	t.Helper()
	x, ok := sum.Parse(digits)
	if !ok {
		t.Fatalf("no sum: %s", digits)
	}
	return x
}

// flip tells a sum one bit of which is another.
func flip(x sum.Sum, bit int) sum.Sum {
	x[bit/8] ^= 1 << (bit % 8)
	return x
}

// put puts sums into a cell in which there is nothing.
func put(l ...sum.Sum) cell.Cell {
	var c cell.Cell
	for _, x := range l {
		c = cell.Put(c, x)
	}
	return c
}

// take takes sums out of a cell in which there is nothing.
func take(l ...sum.Sum) cell.Cell {
	var c cell.Cell
	for _, x := range l {
		c = cell.Take(c, x)
	}
	return c
}

// P13.1: the chapter's example.
func TestExample(t *testing.T) {
	for _, x := range some() {
		if got, plus, ok := cell.Pure(cell.Put(cell.Cell{}, x)); got != x || !plus || !ok {
			t.Errorf("Put %s: Pure %s, %v, %v", x.Text(), got.Text(), plus, ok)
		}
	}
}

// P13.1: checks that were worked out elsewhere.
func TestOfKnown(t *testing.T) {
	for _, c := range []struct {
		x    sum.Sum
		want string
	}{
		{sum.Sum{}, "5534f067ae40b0ddf4ebde8934a257fb9691ba444c19212bcc5554354de5eb30"},
		{full(), "c5f50a360982298d0518de85abb377b1ac54e95699c244262fecca6bb9bf13be"},
		{count(), "7a331df95ecde5e869d97c8bf58de53540fe9cefb798f7ec8a5db815d240b566"},
		{sum.Of([]byte("abc")), "760da88dd40ce41cf473d4c8a349fa721b0e67bbd9bf13da6146289c512f55b0"},
	} {
		if got := cell.Of(c.x).Text(); got != c.want {
			t.Errorf("Of %s: %s, want %s", c.x.Text(), got, c.want)
		}
	}
}

// P13.1: each bit of a sum tells in its check.
func TestOfBits(t *testing.T) {
	for _, x := range some() {
		if got := cell.Of(x); got != wantOf(x) {
			t.Errorf("Of %s: %s", x.Text(), got.Text())
		}
		for bit := range 256 {
			y := flip(x, bit)
			if got := cell.Of(y); got != wantOf(y) || got == cell.Of(x) {
				t.Errorf("Of %s: %s", y.Text(), got.Text())
			}
		}
	}
}

// P13.1: keys and checks that were worked out elsewhere.
func TestPutKnown(t *testing.T) {
	abc := sum.Of([]byte("abc"))
	for _, c := range []struct {
		l          []sum.Sum
		key, check string
	}{
		{[]sum.Sum{abc},
			"ba7816bf8f01cfea414140de5dae2223b00361a396177a9cb410ff61f20015ad",
			"760da88dd40ce41cf473d4c8a349fa721b0e67bbd9bf13da6146289c512f55b0"},
		{[]sum.Sum{abc, count()},
			"ba7914bc8b04c9ed49484ad551a32c2ca01273b082026c8bac09e57aee1d0bb2",
			"0c3eb5748ac101f49daaa84356c41f475bf0fb546e27e436eb1b9089836fe0d6"},
		{[]sum.Sum{full(), abc, count()},
			"4586eb4374fb3612b6b7b52aae5cd3d35fed8c4f7dfd937453f61a8511e2f44d",
			"c9cbbf428343287998b276c6fd7768f6f7a41202f7e5a010c4f75ae23ad0f368"},
	} {
		n := int64(len(c.l))
		key, check := text(t, c.key), text(t, c.check)
		if got, want := put(c.l...), (cell.Cell{Count: n, Key: key, Check: check}); got != want {
			t.Errorf("Put %d: %v, want %v", n, got, want)
		}
		if got, want := take(c.l...), (cell.Cell{Count: -n, Key: key, Check: check}); got != want {
			t.Errorf("Take %d: %v, want %v", n, got, want)
		}
	}
}

// cells has cells of many kinds, such too as no Put makes.
func cells() []cell.Cell {
	var l []cell.Cell
	for _, n := range []int64{0, 1, -1, 2, -2, 3, 1 << 31, 1 << 32, math.MaxInt64 - 1, math.MaxInt64, math.MinInt64, math.MinInt64 + 1} {
		for _, key := range []sum.Sum{{}, {1}, full(), count()} {
			l = append(l,
				cell.Cell{Count: n, Key: key},
				cell.Cell{Count: n, Key: key, Check: wantOf(key)},
				cell.Cell{Count: n, Key: key, Check: full()})
		}
	}
	return l
}

// P13.1: Put and Take of any cell, any sum.
func TestPutTake(t *testing.T) {
	for _, c := range cells() {
		for _, x := range some() {
			key, check := xor(c.Key, x), xor(c.Check, wantOf(x))
			if got, want := cell.Put(c, x), (cell.Cell{Count: c.Count + 1, Key: key, Check: check}); got != want {
				t.Errorf("Put %v, %s: %v, want %v", c, x.Text(), got, want)
			}
			if got, want := cell.Take(c, x), (cell.Cell{Count: c.Count - 1, Key: key, Check: check}); got != want {
				t.Errorf("Take %v, %s: %v, want %v", c, x.Text(), got, want)
			}
			if cell.Take(cell.Put(c, x), x) != c || cell.Put(cell.Take(c, x), x) != c {
				t.Errorf("%v with %s and without it", c, x.Text())
			}
		}
	}
}

// P13.1: Minus of any two cells.
func TestMinus(t *testing.T) {
	for _, a := range cells() {
		for _, b := range cells() {
			want := cell.Cell{Count: a.Count - b.Count, Key: xor(a.Key, b.Key), Check: xor(a.Check, b.Check)}
			if got := cell.Minus(a, b); got != want {
				t.Errorf("Minus %v, %v: %v, want %v", a, b, got, want)
			}
		}
		if got := cell.Minus(a, a); got != (cell.Cell{}) {
			t.Errorf("Minus %v of itself: %v", a, got)
		}
		if got := cell.Minus(a, cell.Cell{}); got != a {
			t.Errorf("Minus %v, nothing: %v", a, got)
		}
	}
}

// P13.1: counts as Go reckons them: they wrap round.
func TestCounts(t *testing.T) {
	most, least := cell.Cell{Count: math.MaxInt64}, cell.Cell{Count: math.MinInt64}
	if got := cell.Put(most, sum.Sum{}).Count; got != math.MinInt64 {
		t.Errorf("Put of the most: %d", got)
	}
	if got := cell.Take(least, sum.Sum{}).Count; got != math.MaxInt64 {
		t.Errorf("Take of the least: %d", got)
	}
	for _, c := range []struct {
		a, b cell.Cell
		want int64
	}{
		{most, least, -1}, {least, most, 1}, {least, least, 0}, {most, most, 0},
		{cell.Cell{}, least, math.MinInt64}, {cell.Cell{}, most, math.MinInt64 + 1},
		{cell.Cell{Count: -1}, least, math.MaxInt64}, {cell.Cell{Count: 1}, least, math.MinInt64 + 1},
		{least, cell.Cell{Count: 1}, math.MaxInt64}, {most, cell.Cell{Count: -1}, math.MinInt64},
	} {
		if got := cell.Minus(c.a, c.b).Count; got != c.want {
			t.Errorf("Minus %d, %d: %d, want %d", c.a.Count, c.b.Count, got, c.want)
		}
	}
	// A cell whose Count wrapped round to 1 is told as any other with that Count.
	x := count()
	if got, plus, ok := cell.Pure(cell.Minus(cell.Put(least, x), least)); got != x || !plus || !ok {
		t.Errorf("Pure behind the least: %s, %v, %v", got.Text(), plus, ok)
	}
	least.Check, most.Check = wantOf(x), xor(wantOf(sum.Sum{}), wantOf(x))
	least.Key, most.Key = x, x
	if got, plus, ok := cell.Pure(cell.Minus(cell.Put(most, sum.Sum{}), cell.Cell{Count: math.MaxInt64})); got != x || !plus || !ok {
		t.Errorf("Pure behind the most: %s, %v, %v", got.Text(), plus, ok)
	}
	if got, plus, ok := cell.Pure(cell.Minus(least, cell.Cell{Count: math.MaxInt64})); got != x || !plus || !ok {
		t.Errorf("Pure of the least less the most: %s, %v, %v", got.Text(), plus, ok)
	}
	if got, plus, ok := cell.Pure(cell.Minus(cell.Cell{Count: math.MaxInt64}, least)); got != x || plus || !ok {
		t.Errorf("Pure of the most less the least: %s, %v, %v", got.Text(), plus, ok)
	}
}
