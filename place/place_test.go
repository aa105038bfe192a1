package place_test

import (
	"crypto/sha256"
	"encoding/binary"
	"math"
	"math/big"
	"slices"
	"testing"

	"tallyman/api"
	"tallyman/place"
	"tallyman/sum"
)

// full is the sum all of whose bits are 1.
func full() sum.Sum {
	var x sum.Sum
	for i := range x {
		x[i] = 255
	}
	return x
}

// count is the sum of the bytes 0, 1, 2, .. 31.
func count() sum.Sum {
	var x sum.Sum
	for i := range x {
		x[i] = byte(i)
	}
	return x
}

// number is the sum that begins with a number's bytes, the lowest first.
func number(v uint64) sum.Sum {
	var x sum.Sum
	binary.LittleEndian.PutUint64(x[:], v)
	return x
}

// some are sums of many kinds: all noughts, all ones, one bit alone, any.
func some() []sum.Sum {
	return []sum.Sum{{}, {1}, {31: 1}, {128}, {31: 128}, full(), count(), sha256.Sum256([]byte("abc"))}
}

// seeds are of many kinds too.
func seeds() []uint64 {
	return []uint64{0, 1, 255, 256, 1<<31 - 1, 1 << 31, 1 << 32, 0x0102030405060708, 1<<63 - 1, 1 << 63, math.MaxUint64}
}

// goods are all numbers of cells that may be.
func goods() []int {
	var l []int
	for n := 3; n <= 1024; n += 3 {
		l = append(l, n)
	}
	return l
}

// flip tells a sum one bit of which is another.
func flip(x sum.Sum, bit int) sum.Sum {
	x[bit/8] ^= 1 << (bit % 8)
	return x
}

// wantOf tells Of's answer by the document's words, and the library.
func wantOf(seed uint64, n int, x sum.Sum) []int {
	text := binary.LittleEndian.AppendUint64([]byte{80}, seed)
	s := sha256.Sum256(append(text, x[:]...))
	var l []int
	for i := range 3 {
		word := new(big.Int).SetUint64(binary.LittleEndian.Uint64(s[8*i:]))
		rest := word.Mod(word, big.NewInt(int64(n/3)))
		l = append(l, i*n/3+int(rest.Int64()))
	}
	return l
}

// wantLevel tells Level's answer by the document's words, and the library.
func wantLevel(x sum.Sum) int {
	s := sha256.Sum256(append([]byte{76}, x[:]...))
	word := binary.LittleEndian.Uint64(s[24:])
	for level := range 9 {
		if word>>level&1 == 1 {
			return level
		}
	}
	return 9
}

// P14.1: the chapter's example, of any seed and sum.
func TestExample(t *testing.T) {
	for _, seed := range seeds() {
		for _, x := range some() {
			if got := place.Of(seed, 3, x); !slices.Equal(got, []int{0, 1, 2}) {
				t.Errorf("Of %d, 3, %s: %v", seed, x.Text(), got)
			}
		}
	}
}

// P14.1: places that were worked out elsewhere.
func TestOfKnown(t *testing.T) {
	abc := sum.Sum(sha256.Sum256([]byte("abc")))
	for _, c := range []struct {
		x    sum.Sum
		seed uint64
		n    int
		want []int
	}{
		{sum.Sum{}, 0, 3, []int{0, 1, 2}},
		{sum.Sum{}, 0, 6, []int{0, 2, 5}},
		{sum.Sum{}, 0, 24, []int{6, 14, 21}},
		{sum.Sum{}, 0, 1023, []int{93, 445, 978}},
		{sum.Sum{}, 1, 24, []int{6, 13, 19}},
		{sum.Sum{}, 0x0102030405060708, 513, []int{16, 295, 378}},
		{sum.Sum{}, 1 << 63, 1023, []int{47, 559, 838}},
		{sum.Sum{}, math.MaxUint64, 12, []int{0, 4, 10}},
		{full(), 0, 1023, []int{179, 567, 950}},
		{full(), 1, 513, []int{148, 248, 498}},
		{full(), 0x0102030405060708, 1023, []int{279, 674, 786}},
		{full(), 1 << 63, 24, []int{0, 9, 16}},
		{full(), math.MaxUint64, 6, []int{0, 2, 5}},
		{count(), 0, 12, []int{2, 6, 8}},
		{count(), 1, 513, []int{121, 254, 512}},
		{count(), 0x0102030405060708, 6, []int{1, 2, 4}},
		{count(), 1 << 63, 24, []int{4, 8, 23}},
		{count(), math.MaxUint64, 1023, []int{39, 405, 976}},
		{abc, 0, 513, []int{27, 340, 481}},
		{abc, 1, 12, []int{2, 4, 11}},
		{abc, 0x0102030405060708, 1023, []int{85, 596, 888}},
		{abc, 1 << 63, 1023, []int{75, 507, 1006}},
		{abc, math.MaxUint64, 24, []int{0, 8, 23}},
	} {
		if got := place.Of(c.seed, c.n, c.x); !slices.Equal(got, c.want) {
			t.Errorf("Of %d, %d, %s: %v, want %v", c.seed, c.n, c.x.Text(), got, c.want)
		}
	}
}

// P14.1: of each number of cells that may be; one place in each part.
func TestOfGood(t *testing.T) {
	for _, n := range goods() {
		for _, seed := range seeds() {
			for _, x := range some() {
				got := place.Of(seed, n, x)
				if want := wantOf(seed, n, x); !slices.Equal(got, want) {
					t.Fatalf("Of %d, %d, %s: %v, want %v", seed, n, x.Text(), got, want)
				}
				for i, p := range got {
					if p < i*n/3 || p >= (i+1)*n/3 {
						t.Fatalf("Of %d, %d, %s: %v: place %d is in another part", seed, n, x.Text(), got, i)
					}
				}
			}
		}
	}
}

// P14.1: each bit of the seed and of the sum tells where it goes.
func TestOfBits(t *testing.T) {
	const n = 1023
	for _, x := range some() {
		for _, seed := range []uint64{0, 0x0102030405060708, math.MaxUint64} {
			was := place.Of(seed, n, x)
			for bit := range 64 {
				other := seed ^ 1<<bit
				if got := place.Of(other, n, x); !slices.Equal(got, wantOf(other, n, x)) || slices.Equal(got, was) {
					t.Errorf("Of %d, %d, %s: %v; of %d: %v", other, n, x.Text(), got, seed, was)
				}
			}
			for bit := range 256 {
				y := flip(x, bit)
				if got := place.Of(seed, n, y); !slices.Equal(got, wantOf(seed, n, y)) || slices.Equal(got, was) {
					t.Errorf("Of %d, %d, %s: %v; of %s: %v", seed, n, y.Text(), got, x.Text(), was)
				}
			}
		}
	}
}

// P14.1: each cell of a part is somebody's place, about as often as the next.
func TestOfEverywhere(t *testing.T) {
	const n, sums = 30, 6000
	often := make([]int, n)
	for v := range uint64(sums) {
		for _, p := range place.Of(7, n, number(v)) {
			often[p]++
		}
	}
	for p, k := range often {
		if k < sums/(n/3)*3/4 || k > sums/(n/3)*5/4 {
			t.Errorf("place %d: %d times of %d", p, k, sums)
		}
	}
}

// P14.1: none of what is not Good; wrong numbers of any kind.
func TestOfNot(t *testing.T) {
	for _, n := range []int{
		0, 1, 2, 4, 5, 7, 1021, 1022, 1024, 1025, 1026, 1027, 2046, 3072,
		-1, -2, -3, -6, -1023, -1024, 1<<16 + 2, 3 << 16, 3<<32 + 3, 1<<32 + 2,
		math.MaxInt, math.MaxInt - 1, math.MaxInt - 2, math.MinInt, math.MinInt + 1, math.MinInt + 2,
	} {
		if place.Good(n) {
			t.Errorf("Good %d", n)
		}
		for _, seed := range seeds() {
			for _, x := range some() {
				if got := place.Of(seed, n, x); len(got) != 0 {
					t.Errorf("Of %d, %d, %s: %v", seed, n, x.Text(), got)
				}
			}
		}
	}
}

// P14.1: Good of each number about those that may be.
func TestGood(t *testing.T) {
	l := goods()
	if len(l) != 341 || l[340] != 1023 {
		t.Fatalf("%d numbers may be, to %d", len(l), l[len(l)-1])
	}
	for n := -4100; n <= 4100; n++ {
		if got, want := place.Good(n), slices.Contains(l, n); got != want {
			t.Errorf("Good %d: %v", n, got)
		}
	}
	if !place.Good(api.Parts) || place.Good(api.Parts-1) || place.Good(0) || place.Good(api.MaxCells+2) {
		t.Errorf("Good by the limits")
	}
}

// P14.1: the places are new memory, spare room too (R4).
func TestOfNew(t *testing.T) {
	for _, n := range []int{3, 6, 1023} {
		want := wantOf(5, n, count())
		a, b := place.Of(5, n, count()), place.Of(5, n, count())
		a = a[:cap(a)]
		for i := range a {
			a[i] = -1
		}
		if !slices.Equal(b, want) || !slices.Equal(place.Of(5, n, count()), want) {
			t.Errorf("Of 5, %d: %v, want %v", n, b, want)
		}
	}
}

// P14.1: levels that were worked out elsewhere: each of them, and at the last
// those of more noughts.
func TestLevelKnown(t *testing.T) {
	for _, c := range []struct {
		x    sum.Sum
		want int
	}{
		{sum.Sum{}, 2}, {full(), 0}, {count(), 2}, {sha256.Sum256([]byte("abc")), 0},
		{number(1), 0}, {number(6), 1}, {number(0), 2}, {number(17), 3}, {number(105), 4},
		{number(4), 5}, {number(48), 6}, {number(520), 7}, {number(223), 8}, {number(1598), 9},
		{number(128), 9}, {number(717), 9}, {number(10369), 9}, {number(25984), 9},
		{number(44441), 9}, {number(74806), 9}, {number(90779), 9}, {number(5137), 9},
	} {
		if got := place.Level(c.x); got != c.want {
			t.Errorf("Level %s: %d, want %d", c.x.Text(), got, c.want)
		}
	}
}

// P14.1: of many sums; half as many at each level as at the one ahead.
func TestLevel(t *testing.T) {
	const sums = 20000
	often := make([]int, api.Levels)
	for v := range uint64(sums) {
		x := number(v)
		got := place.Level(x)
		if want := wantLevel(x); got != want {
			t.Fatalf("Level %s: %d, want %d", x.Text(), got, want)
		}
		often[got]++
	}
	for level, k := range often {
		share := sums >> min(level+1, api.Levels-1)
		if k < share/2 || k > share*2 {
			t.Errorf("level %d: %d of %d", level, k, sums)
		}
	}
}

// P14.1: each bit of a sum tells in what its level is told from.
func TestLevelBits(t *testing.T) {
	for _, x := range some() {
		unlike := 0
		for bit := range 256 {
			y := flip(x, bit)
			got := place.Level(y)
			if want := wantLevel(y); got != want {
				t.Errorf("Level %s: %d, want %d", y.Text(), got, want)
			}
			if got != place.Level(x) {
				unlike++
			}
		}
		if unlike == 0 {
			t.Errorf("Level of %s and of all beside it is one", x.Text())
		}
	}
}
