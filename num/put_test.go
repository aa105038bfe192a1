package num_test

import (
	"bytes"
	"encoding/binary"
	"math"
	"math/rand/v2"
	"strings"
	"testing"

	"tallyman/num"
)

// known are numbers with their bytes: each length's least and greatest too.
var known = []struct {
	v    uint64
	want string
}{
	{0, "\x00"},
	{1, "\x01"},
	{127, "\x7f"},
	{128, "\x80\x01"},
	{129, "\x81\x01"},
	{300, "\xac\x02"},
	{16383, "\xff\x7f"},
	{16384, "\x80\x80\x01"},
	{1<<21 - 1, "\xff\xff\x7f"},
	{1 << 21, "\x80\x80\x80\x01"},
	{1 << 28, "\x80\x80\x80\x80\x01"},
	{1<<31 - 1, "\xff\xff\xff\xff\x07"},
	{1<<32 - 1, "\xff\xff\xff\xff\x0f"},
	{1 << 35, "\x80\x80\x80\x80\x80\x01"},
	{1 << 42, "\x80\x80\x80\x80\x80\x80\x01"},
	{1 << 49, "\x80\x80\x80\x80\x80\x80\x80\x01"},
	{1 << 56, "\x80\x80\x80\x80\x80\x80\x80\x80\x01"},
	{1<<63 - 1, "\xff\xff\xff\xff\xff\xff\xff\xff\x7f"},
	{1 << 63, "\x80\x80\x80\x80\x80\x80\x80\x80\x80\x01"},
	{math.MaxUint64, "\xff\xff\xff\xff\xff\xff\xff\xff\xff\x01"},
}

// numbers are those about every power of two, and many of each length.
func numbers() []uint64 {
	var l []uint64
	from := rand.New(rand.NewPCG(4, 1))
	for i := range 65 {
		p := uint64(1) << i
		l = append(l, p-2, p-1, p, p+1, ^p)
		for range 20 {
			l = append(l, from.Uint64()>>(i%64))
		}
	}
	return l
}

// pattern makes n bytes that are unlike their neighbours.
func pattern(n int) []byte {
	b := make([]byte, n)
	for i := range b {
		b[i] = byte(i*i + i>>3 + 7)
	}
	return b
}

// spoil turns all bits of b, and of its spare room.
func spoil(b []byte) {
	b = b[:cap(b)]
	for i := range b {
		b[i] ^= 255
	}
}

// P4.1: seven bits a byte, the lowest first, 128 more in all but the last.
func TestPut(t *testing.T) {
	for _, c := range known {
		if got := num.Put(nil, c.v); string(got) != c.want {
			t.Errorf("Put of %d: %x, want %x", c.v, got, c.want)
		}
	}
	for _, v := range numbers() {
		if got := num.Put(nil, v); !bytes.Equal(got, binary.AppendUvarint(nil, v)) {
			t.Errorf("Put of %d: %x", v, got)
		}
	}
	for v := range uint64(1 << 17) {
		if got := num.Put(nil, v); !bytes.Equal(got, binary.AppendUvarint(nil, v)) {
			t.Errorf("Put of %d: %x", v, got)
		}
	}
}

// P4.1: what was there stays ahead.
func TestPutBehind(t *testing.T) {
	for _, ahead := range []string{"", "a", "\x80", "\xff\xff", strings.Repeat("ab", 50)} {
		for _, c := range known {
			if got := num.Put([]byte(ahead), c.v); string(got) != ahead+c.want {
				t.Errorf("Put of %d behind %x: %x", c.v, ahead, got)
			}
		}
	}
	if got := num.Put(num.Put(num.Put([]byte{}, 1), 300), 0); string(got) != "\x01\xac\x02\x00" {
		t.Errorf("Put of three: %x", got)
	}
}

// P4.1: Size is how many bytes Put writes.
func TestSize(t *testing.T) {
	for _, c := range known {
		if got := num.Size(c.v); got != len(c.want) {
			t.Errorf("Size of %d: %d, want %d", c.v, got, len(c.want))
		}
	}
	for _, v := range numbers() {
		if got := num.Size(v); got != len(binary.AppendUvarint(nil, v)) {
			t.Errorf("Size of %d: %d", v, got)
		}
	}
}

// R4: Put writes neither into what is handed in nor behind it, and tells new
// memory.
func TestPutNewMemory(t *testing.T) {
	for _, n := range []int{0, 1, 20} {
		room := pattern(60)
		was := bytes.Clone(room)
		got := num.Put(room[:n], math.MaxUint64)
		again := num.Put(room[:n], math.MaxUint64)
		if !bytes.Equal(room, was) {
			t.Errorf("Put behind %d bytes changes what is handed in", n)
		}
		spoil(got)
		if !bytes.Equal(room, was) {
			t.Errorf("Put behind %d bytes tells what is handed in", n)
		}
		want := binary.AppendUvarint(bytes.Clone(was[:n]), math.MaxUint64)
		if !bytes.Equal(again, want) {
			t.Errorf("Put behind %d bytes: two answers share what they are", n)
		}
		spoil(room)
		if !bytes.Equal(again, want) {
			t.Errorf("Put behind %d bytes keeps what is handed in", n)
		}
	}
}

// R4: numbers that are put behind one and the same do not meet.
func TestPutTwoBehindOne(t *testing.T) {
	one := num.Put([]byte("ab"), 300)
	two, three := num.Put(one, 5), num.Put(one, 6)
	if string(one) != "ab\xac\x02" || string(two) != "ab\xac\x02\x05" || string(three) != "ab\xac\x02\x06" {
		t.Errorf("Put: %x, %x, %x", one, two, three)
	}
	two, three = num.PutBytes(one, []byte("x")), num.PutBytes(one, []byte("y"))
	if string(one) != "ab\xac\x02" || string(two) != "ab\xac\x02\x01x" || string(three) != "ab\xac\x02\x01y" {
		t.Errorf("PutBytes: %x, %x, %x", one, two, three)
	}
}
