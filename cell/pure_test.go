package cell_test

import (
	"math"
	"testing"

	"tallyman/cell"
	"tallyman/sum"
)

// isPure tells whether x alone is told of a cell.
func isPure(t *testing.T, c cell.Cell, x sum.Sum, plus bool) {
	t.Helper()
	if got, gotPlus, ok := cell.Pure(c); got != x || gotPlus != plus || !ok {
		t.Errorf("Pure of %v: %s, %v, %v", c, got.Text(), gotPlus, ok)
	}
}

// isNot tells whether nothing is told of a cell (R2: all else nought).
func isNot(t *testing.T, c cell.Cell) {
	t.Helper()
	if got, plus, ok := cell.Pure(c); got != (sum.Sum{}) || plus || ok {
		t.Errorf("Pure of %v: %s, %v, %v", c, got.Text(), plus, ok)
	}
}

// P13.1: Pure of what was put in or taken out alone, in whatever way.
func TestPure(t *testing.T) {
	for _, x := range some() {
		isPure(t, put(x), x, true)
		isPure(t, take(x), x, false)
		isPure(t, cell.Minus(put(x), cell.Cell{}), x, true)
		isPure(t, cell.Minus(cell.Cell{}, put(x)), x, false)
		isPure(t, cell.Minus(cell.Cell{}, take(x)), x, true)
		isPure(t, cell.Minus(put(x, x), put(x)), x, true)
		isPure(t, cell.Take(cell.Take(put(x, x, x), x), x), x, true)
		for _, y := range some() {
			isPure(t, cell.Take(put(y, x), y), x, true)
			isPure(t, cell.Put(take(y, x), y), x, false)
			isPure(t, cell.Minus(put(x, y), put(y)), x, true)
			isPure(t, cell.Minus(put(y), put(x, y)), x, false)
		}
	}
}

// P13.1: the Count alone tells which of the two it is; of another Count
// nothing, though Check is Key's check.
func TestPureCount(t *testing.T) {
	for _, x := range some() {
		for _, n := range []int64{0, 2, -2, 3, -3, 4, 255, 256, 257, -255, 1 << 8, 1<<16 + 1, 1<<32 + 1, 1<<32 - 1, -1 << 32, math.MaxInt64, math.MinInt64, math.MinInt64 + 1} {
			isNot(t, cell.Cell{Count: n, Key: x, Check: wantOf(x)})
		}
		isPure(t, cell.Cell{Count: 1, Key: x, Check: wantOf(x)}, x, true)
		isPure(t, cell.Cell{Count: -1, Key: x, Check: wantOf(x)}, x, false)
	}
}

// P13.1: each bit of Key and of Check tells.
func TestPureBits(t *testing.T) {
	for _, x := range some() {
		for bit := range 256 {
			for _, n := range []int64{1, -1} {
				isNot(t, cell.Cell{Count: n, Key: flip(x, bit), Check: wantOf(x)})
				isNot(t, cell.Cell{Count: n, Key: x, Check: flip(wantOf(x), bit)})
			}
		}
	}
}

// P13.1: nothing of what is no check of its Key.
func TestPureNot(t *testing.T) {
	for _, x := range some() {
		for _, n := range []int64{1, -1} {
			isNot(t, cell.Cell{Count: n, Key: x})
			isNot(t, cell.Cell{Count: n, Key: x, Check: x})
			isNot(t, cell.Cell{Count: n, Key: x, Check: sum.Of(x[:])})
			isNot(t, cell.Cell{Count: n, Key: wantOf(x), Check: x})
		}
	}
	isNot(t, cell.Cell{})
}

// P13.1: nothing of many that lie on each other, though they are one more on
// the one side than on the other.
func TestPureMany(t *testing.T) {
	l := some()
	for i, x := range l {
		isNot(t, put(x, x))
		isNot(t, take(x, x))
		for j, y := range l {
			isNot(t, put(x, y))
			isNot(t, cell.Take(put(x), y))
			for k, z := range l {
				if i != j && j != k && i != k {
					isNot(t, put(x, y, z))
					isNot(t, cell.Take(put(x, y), z))
					isNot(t, cell.Put(take(x, y), z))
					isNot(t, cell.Minus(put(x), put(y, z)))
				}
			}
		}
	}
}

// P13.1: Zero of nothing, and of what went out as often as it came.
func TestZero(t *testing.T) {
	isZero := func(c cell.Cell) {
		t.Helper()
		if !cell.Zero(c) {
			t.Errorf("Zero of %v", c)
		}
	}
	isZero(cell.Cell{})
	for _, x := range some() {
		isZero(cell.Take(put(x), x))
		isZero(cell.Put(take(x), x))
		isZero(cell.Minus(put(x), put(x)))
		for _, y := range some() {
			isZero(cell.Take(cell.Take(put(x, y), x), y))
			isZero(cell.Minus(put(x, y), put(y, x)))
		}
	}
}

// P13.1: each bit of Count, of Key and of Check tells in Zero.
func TestZeroNot(t *testing.T) {
	isNotZero := func(c cell.Cell) {
		t.Helper()
		if cell.Zero(c) {
			t.Errorf("Zero of %v", c)
		}
	}
	for bit := range 64 {
		isNotZero(cell.Cell{Count: 1 << bit})
	}
	for _, n := range []int64{-1, 2, -2, math.MaxInt64, math.MinInt64 + 1} {
		isNotZero(cell.Cell{Count: n})
	}
	for bit := range 256 {
		one := flip(sum.Sum{}, bit)
		isNotZero(cell.Cell{Key: one})
		isNotZero(cell.Cell{Check: one})
		isNotZero(cell.Cell{Key: one, Check: one})
	}
	for _, x := range some() {
		isNotZero(put(x))
		isNotZero(take(x))
		isNotZero(put(x, x))
		for _, y := range some() {
			if x != y {
				isNotZero(cell.Take(put(x), y))
			}
		}
	}
	// As many came as went, and their Key is nought: Check alone tells.
	a, b := sum.Sum{1}, sum.Sum{2}
	isNotZero(cell.Minus(put(a, b), put(xor(a, b), sum.Sum{})))
}
