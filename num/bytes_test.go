package num_test

import (
	"bytes"
	"encoding/binary"
	"math"
	"strings"
	"testing"

	"tallyman/api"
	"tallyman/num"
)

// getsBytes looks what GetBytes tells of b.
func getsBytes(t *testing.T, b []byte, most int, p string, n int, err api.Errno) {
	t.Helper()
	got, gotN, gotErr := num.GetBytes(b, most)
	if string(got) != p || gotN != n || gotErr != err {
		t.Errorf("GetBytes of %.40x, %d: %.40x, %d, %v, want %.40x, %d, %v", b, most, got, gotN, gotErr, p, n, err)
	}
}

// lengths are those about the ends of how many bytes a count takes.
var lengths = []int{0, 1, 2, 5, 126, 127, 128, 129, 300, 2047, 2048, 2049, 16383, 16384, 16385, 70000}

// P4.1: what was there, how many, and they.
func TestPutBytes(t *testing.T) {
	for _, c := range []struct{ b, p, want string }{
		{"", "", "\x00"},
		{"", "hello", "\x05hello"},
		{"ab", "", "ab\x00"},
		{"ab", "\x00", "ab\x01\x00"},
		{"\xff", "xyz", "\xff\x03xyz"},
		{"", strings.Repeat("x", 300), "\xac\x02" + strings.Repeat("x", 300)},
	} {
		if got := num.PutBytes([]byte(c.b), []byte(c.p)); string(got) != c.want {
			t.Errorf("PutBytes of %x behind %x: %x, want %x", c.p, c.b, got, c.want)
		}
	}
	for _, n := range lengths {
		want := append(binary.AppendUvarint([]byte("ab"), uint64(n)), pattern(n)...)
		if got := num.PutBytes([]byte("ab"), pattern(n)); !bytes.Equal(got, want) {
			t.Errorf("PutBytes of %d bytes", n)
		}
	}
	if got := num.PutBytes(nil, nil); string(got) != "\x00" {
		t.Errorf("PutBytes of nil: %x", got)
	}
}

// P4.1: they, and how many bytes in all, whatever stands behind.
func TestGetBytes(t *testing.T) {
	for _, n := range lengths {
		p := pattern(n)
		b := append(binary.AppendUvarint(nil, uint64(n)), p...)
		for _, most := range []int{n, n + 1, 2*n + 1, math.MaxInt} {
			getsBytes(t, b, most, string(p), len(b), api.OK)
			getsBytes(t, append(bytes.Clone(b), "behind"...), most, string(p), len(b), api.OK)
		}
	}
	all := num.PutBytes(num.PutBytes(num.PutBytes(nil, []byte("one")), nil), pattern(200))
	for _, want := range []string{"one", "", string(pattern(200))} {
		p, n, err := num.GetBytes(all, 200)
		if string(p) != want || err != api.OK {
			t.Fatalf("GetBytes of three: %x, %v, want %x", p, err, want)
		}
		all = all[n:]
	}
	if len(all) != 0 {
		t.Errorf("GetBytes of three: %x is left", all)
	}
}

// P4.1: how many may come at most; a most below 0 lets none come.
func TestGetBytesMost(t *testing.T) {
	for _, n := range lengths {
		b := append(binary.AppendUvarint(nil, uint64(n)), pattern(n)...)
		for _, most := range []int{n - 1, n / 2, 0, -1, -n, math.MinInt} {
			if most < n {
				getsBytes(t, b, most, "", 0, api.EFORM)
			}
		}
	}
	getsBytes(t, []byte{0}, 0, "", 1, api.OK)
	getsBytes(t, []byte{0}, -1, "", 0, api.EFORM)
	getsBytes(t, []byte("\x05hello"), 5, "hello", 6, api.OK)
	getsBytes(t, []byte("\x05hello"), 4, "", 0, api.EFORM)
}

// P4.1: fewer bytes than are told: EMORE, but EFORM first, if they are too
// many.
func TestGetBytesMore(t *testing.T) {
	for _, n := range lengths[1:] {
		count := binary.AppendUvarint(nil, uint64(n))
		b := append(bytes.Clone(count), pattern(n)...)
		for _, end := range []int{len(count), len(count) + 1, len(b) - 2, len(b) - 1} {
			if end >= len(count) && end < len(b) {
				getsBytes(t, b[:end], n, "", 0, api.EMORE)
				getsBytes(t, b[:end], math.MaxInt, "", 0, api.EMORE)
				getsBytes(t, b[:end], n-1, "", 0, api.EFORM)
			}
		}
	}
}

// P4.1: counts that no list can have.
func TestGetBytesGreat(t *testing.T) {
	for _, v := range []uint64{1 << 31, 1 << 32, 1<<32 + 2, 1<<62 - 1, 1 << 62, math.MaxInt64 - 1, math.MaxInt64} {
		b := append(binary.AppendUvarint(nil, v), "hello"...)
		getsBytes(t, b, math.MaxInt, "", 0, api.EMORE)
		getsBytes(t, b, int(v), "", 0, api.EMORE)
		getsBytes(t, b, int(v)-1, "", 0, api.EFORM)
	}
	for _, v := range []uint64{1 << 63, 1<<63 + 3, math.MaxUint64 - 2, math.MaxUint64} {
		b := append(binary.AppendUvarint(nil, v), "hello"...)
		for _, most := range []int{math.MaxInt, 5, 0, -1, -3, math.MinInt} {
			getsBytes(t, b, most, "", 0, api.EFORM)
		}
	}
}

// P4.1: Get's error of how many, ahead of most.
func TestGetBytesCount(t *testing.T) {
	for _, most := range []int{math.MaxInt, 9, 0, -1} {
		for _, b := range []string{"", "\x80", "\xff\xff", strings.Repeat("\x80", 9)} {
			getsBytes(t, []byte(b), most, "", 0, api.EMORE)
		}
		for _, b := range []string{
			"\x80\x00", "\x85\x00hello", "\x85\x80\x00hello", strings.Repeat("\x80", 10),
			strings.Repeat("\xff", 9) + "\x02hello", strings.Repeat("\x80", 9) + "\x00",
		} {
			getsBytes(t, []byte(b), most, "", 0, api.EFORM)
		}
	}
}

// R4: PutBytes writes neither into what is handed in nor behind it, and tells
// new memory.
func TestPutBytesNewMemory(t *testing.T) {
	for _, n := range []int{0, 1, 20} {
		room, other := pattern(60), pattern(70)
		wasRoom, wasOther := bytes.Clone(room), bytes.Clone(other)
		got := num.PutBytes(room[:n], other[10:40])
		again := num.PutBytes(room[:n], other[10:40])
		within := num.PutBytes(room[:n], room[10:40])
		spoil(got)
		if !bytes.Equal(room, wasRoom) || !bytes.Equal(other, wasOther) {
			t.Errorf("PutBytes behind %d bytes changes what is handed in", n)
		}
		want := string(wasRoom[:n]) + "\x1e" + string(wasOther[10:40])
		spoil(room)
		spoil(other)
		if string(again) != want || string(within) != want {
			t.Errorf("PutBytes behind %d bytes shares what it tells", n)
		}
	}
}

// R4: GetBytes tells new memory, spare room too.
func TestGetBytesNewMemory(t *testing.T) {
	for _, n := range []int{0, 1, 20} {
		room := append([]byte{byte(n)}, pattern(60)...)
		was := bytes.Clone(room)
		p, _, _ := num.GetBytes(room[:n+1], n)
		again, _, _ := num.GetBytes(room, n)
		spoil(p)
		if !bytes.Equal(room, was) {
			t.Errorf("GetBytes of %d bytes tells what is handed in", n)
		}
		spoil(room)
		if !bytes.Equal(again, was[1:n+1]) {
			t.Errorf("GetBytes of %d bytes shares what it tells", n)
		}
	}
}
