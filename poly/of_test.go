package poly_test

import (
	"bytes"
	"hash/crc32"
	"math"
	"strings"
	"testing"

	"tallyman/poly"
)

// pattern makes n bytes that do not repeat soon.
func pattern(n int) []byte {
	b := make([]byte, n)
	for i := range b {
		b[i] = byte(i*i + i>>3 + 7)
	}
	return b
}

// numbers has rests with few bits, with many, and some between.
func numbers() []uint32 {
	l := []uint32{0, math.MaxUint32, 0xCBF43926, 0xEDB88320, 0x04C11DB7, 0x80000001, 0x00FF00FF, 0x12345678}
	for i := range 32 {
		l = append(l, 1<<i, ^uint32(1<<i))
	}
	return l
}

// P3.1: rests that are known.
func TestOfKnown(t *testing.T) {
	for _, c := range []struct {
		text string
		want uint32
	}{
		{"", 0},
		{"a", 0xE8B7BE43},
		{"abc", 0x352441C2},
		{"123456789", 0xCBF43926},
		{"The quick brown fox jumps over the lazy dog", 0x414FA339},
		{strings.Repeat("\x00", 4), 0x2144DF1C},
		{strings.Repeat("\x00", 32), 0x190A55AD},
		{strings.Repeat("\xff", 4), 0xFFFFFFFF},
		{strings.Repeat("\xff", 32), 0xFF6CAB0B},
		{"abc\x00", 0xA75D6850},
		{"\x00abc", 0xEB2147CC},
	} {
		if got := poly.Of([]byte(c.text)); got != c.want {
			t.Errorf("Of of %q: %08x, want %08x", c.text, got, c.want)
		}
	}
}

// P3.1: every byte, by itself and behind each other one.
func TestOfBytes(t *testing.T) {
	for i := range 256 {
		for j := range 256 {
			b := []byte{byte(i), byte(j)}
			if got := poly.Of(b); got != crc32.ChecksumIEEE(b) {
				t.Errorf("Of of %x: %08x", b, got)
			}
		}
		b := []byte{byte(i)}
		if got := poly.Of(b); got != crc32.ChecksumIEEE(b) {
			t.Errorf("Of of %x: %08x", b, got)
		}
	}
}

// P3.1: every length up to some hundreds, and some far ones.
func TestOfLengths(t *testing.T) {
	lengths := []int{1000, 4095, 4096, 4097, 65535, 65536, 65537, 1 << 20}
	for n := range 300 {
		lengths = append(lengths, n)
	}
	for _, n := range lengths {
		b := pattern(n)
		if got := poly.Of(b); got != crc32.ChecksumIEEE(b) {
			t.Errorf("Of of %d bytes: %08x", n, got)
		}
	}
}

// P3.1: one behind the other, however they are parted.
func TestOfParts(t *testing.T) {
	b := pattern(120)
	want := crc32.ChecksumIEEE(b)
	for i := range len(b) + 1 {
		if poly.Of(b[:i], b[i:]) != want {
			t.Errorf("Of parted at %d", i)
		}
		for j := i; j <= len(b); j++ {
			if poly.Of(b[:i], nil, b[i:j], []byte{}, b[j:]) != want {
				t.Errorf("Of parted at %d and %d", i, j)
			}
		}
	}
	var parts [][]byte
	for i := range b {
		parts = append(parts, b[i:i+1])
	}
	if poly.Of(parts...) != want {
		t.Errorf("Of byte by byte")
	}
	if poly.Of(b[60:], b[:60]) == want {
		t.Errorf("Of does not ask for the order of its parts")
	}
}

// P3.1, R4: nothing, no list, lists of nothing: all are no bytes.
func TestOfNothing(t *testing.T) {
	for i, l := range [][][]byte{nil, {}, {nil}, {{}}, {nil, {}, nil}} {
		if got := poly.Of(l...); got != 0 {
			t.Errorf("Of of nothing, number %d: %08x", i, got)
		}
	}
}

// P3.1: On goes on from any rest, one that no bytes were told to have too.
func TestOn(t *testing.T) {
	for _, c := range numbers() {
		for _, n := range []int{0, 1, 2, 3, 4, 5, 8, 17, 64, 255} {
			b := pattern(n)
			if got := poly.On(c, b); got != crc32.Update(c, crc32.IEEETable, b) {
				t.Errorf("On from %08x with %d bytes: %08x", c, n, got)
			}
		}
		if poly.On(c, nil) != c || poly.On(c, []byte{}) != c {
			t.Errorf("On from %08x with nothing", c)
		}
	}
	for i := range 256 {
		b := []byte{byte(i)}
		if got := poly.On(0xCBF43926, b); got != crc32.Update(0xCBF43926, crc32.IEEETable, b) {
			t.Errorf("On with byte %d: %08x", i, got)
		}
	}
}

// P3.1: On is Of of the bytes ahead, and of those behind.
func TestOnIsOf(t *testing.T) {
	b := pattern(150)
	for i := range len(b) + 1 {
		if got := poly.On(poly.Of(b[:i]), b[i:]); got != poly.Of(b) {
			t.Errorf("On at %d: %08x", i, got)
		}
		if got := poly.On(0, b[:i]); got != poly.Of(b[:i]) {
			t.Errorf("On from 0 with %d bytes: %08x", i, got)
		}
	}
}

// R4, R5: what is handed in stays as it is, and is not kept.
func TestOfLeavesArguments(t *testing.T) {
	room := pattern(200)
	was := bytes.Clone(room)
	l := [][]byte{room[:70:150], room[80:90]}
	first, more := poly.Of(l...), poly.On(5, room[:70])
	if !bytes.Equal(room, was) || &l[0][0] != &room[0] || len(l[0]) != 70 || len(l[1]) != 10 {
		t.Errorf("Of, On change what is handed in")
	}
	room[3] ^= 1
	if poly.Of(l...) == first || poly.On(5, room[:70]) == more {
		t.Errorf("Of, On keep what is handed in")
	}
	room[3] ^= 1
	if poly.Of(l...) != first || poly.On(5, room[:70]) != more {
		t.Errorf("Of, On hang on what was asked before")
	}
}
