package roll_test

import (
	"bytes"
	"math/big"
	"testing"

	"tallyman/roll"
)

// prime is what the rest is by, put together from the document's words.
func prime() *big.Int {
	p := new(big.Int).Lsh(big.NewInt(1), 61)
	return p.Sub(p, big.NewInt(1))
}

// rest tells v's rest, from 0 on.
func rest(v *big.Int) uint64 { return new(big.Int).Mod(v, prime()).Uint64() }

// far tells 257 taken n times, whole.
func far(n int) *big.Int {
	return new(big.Int).Exp(big.NewInt(257), big.NewInt(int64(n)), nil)
}

// want tells the sum by the document's words: each byte and 1, times 257 as
// often as there are bytes behind it; the rest is taken at the end alone.
func want(b []byte) uint64 {
	all := new(big.Int)
	for i, c := range b {
		one := big.NewInt(int64(c) + 1)
		all.Add(all, one.Mul(one, far(len(b)-1-i)))
	}
	return rest(all)
}

// pattern makes n bytes that do not repeat soon.
func pattern(n int) []byte {
	b := make([]byte, n)
	for i := range b {
		b[i] = byte(i*i + i>>3 + 7)
	}
	return b
}

// nothings are bytes whose sum is a multiple of Prime, so that the rest is 0.
func nothings(t *testing.T) [][]byte {
	var l [][]byte
	for k := int64(1); k < 60; k++ {
		if b, ok := digits(new(big.Int).Mul(prime(), big.NewInt(k))); ok {
			l = append(l, b)
		}
	}
	if len(l) < 10 {
		t.Fatalf("%d texts with the rest 0", len(l))
	}
	return l
}

// digits tells bytes whose sum is v before the rest is taken, if there are.
func digits(v *big.Int) ([]byte, bool) {
	var b []byte
	for v = new(big.Int).Set(v); v.Sign() > 0; {
		d := new(big.Int)
		v.DivMod(v, big.NewInt(257), d)
		if d.Sign() == 0 {
			return nil, false
		}
		b = append([]byte{byte(d.Int64() - 1)}, b...)
	}
	return b, true
}

// P5.1: the number by which the rest is.
func TestPrime(t *testing.T) {
	if uint64(roll.Prime) != prime().Uint64() || roll.Prime != 2305843009213693951 {
		t.Errorf("Prime: %d", uint64(roll.Prime))
	}
}

// P5.1: sums that are reckoned by hand.
func TestOfKnown(t *testing.T) {
	for _, c := range []struct {
		text string
		want uint64
	}{
		{"", 0},
		{"a", 98},
		{"\x00", 1},
		{"\xff", 256},
		{"\x00\x00", 258},
		{"\x01\x02", 517},
		{"\x02\x01", 773},
		{"ab", 98*257 + 99},
		{"abc", 98*66049 + 99*257 + 100},
		{"\xff\xff\xff", 257*257*257 - 1},
		{"\xff\xff\xff\xff\xff\xff\xff", 257*257*257*257*257*257*257 - 1},
	} {
		if got := roll.Of([]byte(c.text)); got != c.want {
			t.Errorf("Of of %q: %d, want %d", c.text, got, c.want)
		}
	}
}

// P5.1: every byte, by itself and behind each other one.
func TestOfBytes(t *testing.T) {
	for i := range 256 {
		if got := roll.Of([]byte{byte(i)}); got != uint64(i)+1 {
			t.Errorf("Of of byte %d: %d", i, got)
		}
		for j := range 256 {
			b := []byte{byte(i), byte(j)}
			if got := roll.Of(b); got != (uint64(i)+1)*257+uint64(j)+1 {
				t.Errorf("Of of %x: %d", b, got)
			}
		}
	}
}

// P5.1: all of b, more than a window ever has, too.
func TestOfLengths(t *testing.T) {
	for n := range 300 {
		for _, b := range [][]byte{pattern(n), make([]byte, n), bytes.Repeat([]byte{255}, n)} {
			if got := roll.Of(b); got != want(b) {
				t.Errorf("Of of %d bytes: %d, want %d", n, got, want(b))
			}
		}
	}
	long := pattern(3000)
	if got := roll.Of(long); got != want(long) {
		t.Errorf("Of of %d bytes: %d", len(long), got)
	}
}

// P5.1: the first byte of many counts, and noughts ahead do.
func TestOfAhead(t *testing.T) {
	b := pattern(200)
	was := roll.Of(b)
	b[0]++
	if roll.Of(b) == was {
		t.Errorf("Of does not ask for the first of %d bytes", len(b))
	}
	seen := map[uint64]int{}
	for n := range 200 {
		s := roll.Of(make([]byte, n))
		if m, ok := seen[s]; ok {
			t.Errorf("Of of %d and of %d noughts: %d", n, m, s)
		}
		seen[s] = n
	}
}

// P5.1: the rest of Prime, and of its multiples, is 0; of one more it is 1.
func TestOfNothings(t *testing.T) {
	for _, b := range nothings(t) {
		if got := roll.Of(b); got != 0 {
			t.Errorf("Of of %x: %d, want 0", b, got)
		}
		if last := len(b) - 1; b[last] < 255 {
			b[last]++
			if got := roll.Of(b); got != 1 {
				t.Errorf("Of of %x: %d, want 1", b, got)
			}
		}
		if last := len(b) - 1; b[last] > 1 {
			b[last] -= 2
			if got := roll.Of(b); got != want(b) || got < roll.Prime-2 {
				t.Errorf("Of of %x: %d, want %d", b, got, want(b))
			}
		}
	}
}

// R4, R5: what is handed in stays as it is; nil and no bytes are one.
func TestOfLeavesArguments(t *testing.T) {
	if roll.Of(nil) != 0 || roll.Of([]byte{}) != 0 {
		t.Errorf("Of of nothing: %d, %d", roll.Of(nil), roll.Of([]byte{}))
	}
	room := pattern(100)
	was := bytes.Clone(room)
	first := roll.Of(room[10:40:70])
	if !bytes.Equal(room, was) || first != want(was[10:40]) {
		t.Errorf("Of changes what is handed in, or reads behind it")
	}
	room[20] ^= 1
	if roll.Of(room[10:40]) == first {
		t.Errorf("Of keeps what is handed in")
	}
}
