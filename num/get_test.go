package num_test

import (
	"bytes"
	"encoding/binary"
	"math"
	"strings"
	"testing"

	"tallyman/api"
	"tallyman/num"
)

// gets looks what Get tells of b.
func gets(t *testing.T, b []byte, v uint64, n int, err api.Errno) {
	t.Helper()
	if gotV, gotN, got := num.Get(b); gotV != v || gotN != n || got != err {
		t.Errorf("Get of %x: %d, %d, %v, want %d, %d, %v", b, gotV, gotN, got, v, n, err)
	}
}

// P4.1: the number at the beginning, whatever stands behind.
func TestGet(t *testing.T) {
	for _, c := range known {
		for _, behind := range []string{"", "\x00", "\x01", "\x80", "\xff", strings.Repeat("\xff", 12), "ab"} {
			gets(t, []byte(c.want+behind), c.v, len(c.want), api.OK)
		}
	}
	for _, v := range numbers() {
		b := binary.AppendUvarint(nil, v)
		gets(t, b, v, len(b), api.OK)
		gets(t, append(b, b...), v, len(b), api.OK)
	}
}

// P4.1: bytes that end in the number, and no bytes at all.
func TestGetMore(t *testing.T) {
	gets(t, nil, 0, 0, api.EMORE)
	gets(t, []byte{}, 0, 0, api.EMORE)
	for _, v := range numbers() {
		b := binary.AppendUvarint(nil, v)
		for i := range len(b) {
			gets(t, b[:i], 0, 0, api.EMORE)
		}
	}
	for n := range 10 {
		for _, x := range []string{"\x80", "\x81", "\xff"} {
			gets(t, []byte(strings.Repeat(x, n)), 0, 0, api.EMORE)
		}
	}
}

// P4.1: longer than it must be: a last byte of nought, but of nought alone.
func TestGetTooLong(t *testing.T) {
	gets(t, []byte{0}, 0, 1, api.OK)
	for _, v := range append(numbers(), 0) {
		b := binary.AppendUvarint(nil, v)
		for len(b) < 12 {
			b[len(b)-1] |= 128
			b = append(b, 0)
			gets(t, b, 0, 0, api.EFORM)
			gets(t, append(b, 1), 0, 0, api.EFORM)
		}
	}
}

// P4.1: the tenth byte has one bit; every other one is EFORM, at the end of
// the bytes too, where more than ten would have to come.
func TestGetTenthByte(t *testing.T) {
	for _, x := range []byte{128, 129, 200, 255} {
		nine := bytes.Repeat([]byte{x}, 9)
		var low uint64
		for i := range 9 {
			low |= uint64(x&127) << (7 * i)
		}
		for tenth := range 256 {
			b := append(bytes.Clone(nine), byte(tenth))
			for _, behind := range []string{"", "\x00", "\x01", "\x80", "\xff\xff"} {
				b := append(bytes.Clone(b), behind...)
				if tenth == 1 {
					gets(t, b, 1<<63|low, 10, api.OK)
				} else {
					gets(t, b, 0, 0, api.EFORM)
				}
			}
		}
	}
	for n := 10; n < 40; n++ {
		gets(t, bytes.Repeat([]byte{128}, n), 0, 0, api.EFORM)
		gets(t, append(bytes.Repeat([]byte{255}, n), 1), 0, 0, api.EFORM)
	}
	gets(t, bytes.Repeat([]byte{255}, 1<<20), 0, 0, api.EFORM)
}

// read tells Get's answer in another way: by the library's own numbers, which
// may be longer than they must be.
func read(b []byte) (uint64, int, api.Errno) {
	v, n := binary.Uvarint(b)
	switch {
	case n < 0 || n == 0 && len(b) >= 10:
		return 0, 0, api.EFORM
	case n == 0:
		return 0, 0, api.EMORE
	case n != len(binary.AppendUvarint(nil, v)):
		return 0, 0, api.EFORM
	}
	return v, n, api.OK
}

// P4.1: all bytes of one and two, and every one of the bytes that tell in
// each place of up to twelve.
func TestGetAll(t *testing.T) {
	for i := range 1 << 16 {
		b := []byte{byte(i), byte(i >> 8)}
		v, n, err := read(b)
		gets(t, b, v, n, err)
		v, n, err = read(b[:1])
		gets(t, b[:1], v, n, err)
	}
	few := []byte{0, 1, 2, 127, 128, 129, 255}
	for n := range 13 {
		for _, rest := range few {
			for at := range n {
				for first := range 256 {
					for _, next := range few {
						b := bytes.Repeat([]byte{rest | 128}, n)
						b[at] = byte(first)
						b[min(at+1, n-1)] = next
						v, size, err := read(b)
						gets(t, b, v, size, err)
					}
				}
			}
		}
	}
}

// P4.1: what Get takes is just what Put writes.
func TestGetIsPut(t *testing.T) {
	for i := range 1 << 21 {
		b := []byte{byte(i) | 128, byte(i>>7) | 128, byte(i >> 14)}
		v, n, err := num.Get(b)
		switch {
		case err == api.OK && !bytes.Equal(num.Put(nil, v), b[:n]):
			t.Errorf("Get of %x: %d, %d, and Put of it is others", b, v, n)
		case err != api.OK && b[2] > 0 && b[2] < 128:
			t.Errorf("Get of %x: %v", b, err)
		}
	}
}

// R4: Get and GetBytes leave what is handed in as it is.
func TestGetLeavesArguments(t *testing.T) {
	room := append([]byte("\x05hello"), pattern(20)...)
	was := bytes.Clone(room)
	num.Get(room[:6])
	num.GetBytes(room[:6], 9)
	if !bytes.Equal(room, was) {
		t.Errorf("Get, GetBytes change what is handed in")
	}
}

// P4.1: Fold of a v, and Open back.
var folds = []struct {
	v    int64
	want uint64
}{
	{0, 0}, {-1, 1}, {1, 2}, {-2, 3}, {2, 4}, {-3, 5}, {150, 300}, {-150, 299},
	{math.MaxInt32, 1<<32 - 2}, {math.MinInt32, 1<<32 - 1},
	{1 << 62, 1 << 63}, {-1 << 62, 1<<63 - 1},
	{math.MaxInt64 - 1, math.MaxUint64 - 3}, {math.MinInt64 + 1, math.MaxUint64 - 2},
	{math.MaxInt64, math.MaxUint64 - 1}, {math.MinInt64, math.MaxUint64},
}

func TestFold(t *testing.T) {
	for _, c := range folds {
		if got := num.Fold(c.v); got != c.want {
			t.Errorf("Fold of %d: %d, want %d", c.v, got, c.want)
		}
		if got := num.Open(c.want); got != c.v {
			t.Errorf("Open of %d: %d, want %d", c.want, got, c.v)
		}
	}
	for _, x := range numbers() {
		v := int64(x)
		want := uint64(2 * v)
		if v < 0 {
			want = uint64(-2*v - 1)
		}
		if got := num.Fold(v); got != want {
			t.Errorf("Fold of %d: %d, want %d", v, got, want)
		}
		if num.Open(num.Fold(v)) != v || num.Fold(num.Open(x)) != x {
			t.Errorf("Open is not the way back of %d", v)
		}
	}
}
