package sum_test

import (
	"bytes"
	"crypto/sha256"
	"strings"
	"testing"

	"tallyman/sum"
)

// pattern makes n bytes that do not repeat by blocks.
func pattern(n int) []byte {
	b := make([]byte, n)
	for i := range b {
		b[i] = byte(i*i + i>>3 + 7)
	}
	return b
}

// P1.1: the texts that FIPS 180-4's examples have, by what the standard says.
func TestOfKnown(t *testing.T) {
	for _, c := range []struct{ text, want string }{
		{"", "e3b0c44298fc1c149afbf4c8996fb92427ae41e4649b934ca495991b7852b855"},
		{"abc", "ba7816bf8f01cfea414140de5dae2223b00361a396177a9cb410ff61f20015ad"},
		{"abcdbcdecdefdefgefghfghighijhijkijkljklmklmnlmnomnopnopq", "248d6a61d20638b8e5c026930c3e6039a33ce45964ff2167f6ecedd419db06c1"},
		{"abcdefghbcdefghicdefghijdefghijkefghijklfghijklmghijklmnhijklmnoijklmnopjklmnopqklmnopqrlmnopqrsmnopqrstnopqrstu", "cf5b16a778af8380036ce59e7b0492370b249b11e8f07a51afac45037afee9d1"},
		{strings.Repeat("a", 1000000), "cdc76e5c9914fb9281a1c7e284d73e67f1809a48a497200e046d39ccc7112cd0"},
	} {
		if got := sum.Of([]byte(c.text)).Text(); got != c.want {
			t.Errorf("Of of %d bytes: %s, want %s", len(c.text), got, c.want)
		}
	}
}

// P1.1: every length about the ends of the first blocks, and some far ones.
func TestOfLengths(t *testing.T) {
	lengths := []int{1000, 4095, 4096, 4097, 65535, 65536, 1 << 20}
	for n := range 4*64 + 2 {
		lengths = append(lengths, n)
	}
	for _, n := range lengths {
		b := pattern(n)
		if got := sum.Of(b); got != sum.Sum(sha256.Sum256(b)) {
			t.Errorf("Of of %d bytes: %s", n, got.Text())
		}
	}
}

// P1.1: more than 2^32 bits, where the length needs its upper word.
func TestOfLong(t *testing.T) {
	if testing.Short() {
		t.Skip("hashes 513 MiB twice")
	}
	part := pattern(1 << 20)
	want := sha256.New()
	parts := make([][]byte, 513)
	for i := range parts {
		parts[i] = part
		want.Write(part)
	}
	if got := sum.Of(parts...); !bytes.Equal(got[:], want.Sum(nil)) {
		t.Errorf("Of of 513 MiB: %s", got.Text())
	}
}

// P1.1: one behind the other, however they are parted.
func TestOfParts(t *testing.T) {
	b := pattern(200)
	want := sum.Of(b)
	for i := range len(b) + 1 {
		if sum.Of(b[:i], b[i:]) != want {
			t.Errorf("Of parted at %d", i)
		}
		for j := i; j <= len(b); j += 7 {
			if sum.Of(b[:i], nil, b[i:j], []byte{}, b[j:]) != want {
				t.Errorf("Of parted at %d and %d", i, j)
			}
		}
	}
	for size := 1; size <= 130; size++ {
		var parts [][]byte
		for p := b; len(p) > 0; p = p[min(size, len(p)):] {
			parts = append(parts, p[:min(size, len(p))])
		}
		if sum.Of(parts...) != want {
			t.Errorf("Of in parts of %d bytes", size)
		}
	}
	if sum.Of(b[100:], b[:100]) == want {
		t.Errorf("Of does not ask for the order of its parts")
	}
}

// P1.1, R4: nothing, no list, lists of nothing: all are no bytes.
func TestOfNothing(t *testing.T) {
	want := sum.Sum(sha256.Sum256(nil))
	for i, l := range [][][]byte{nil, {}, {nil}, {{}}, {nil, {}, nil}} {
		if sum.Of(l...) != want {
			t.Errorf("Of of nothing, number %d", i)
		}
	}
}

// R4, R5: what is handed in stays as it is, and is not kept.
func TestOfLeavesArguments(t *testing.T) {
	room := pattern(200)
	was := bytes.Clone(room)
	b := room[:70:150]
	l := [][]byte{b, room[80:90]}
	first := sum.Of(l...)
	if !bytes.Equal(room, was) || &l[0][0] != &room[0] || len(l[0]) != 70 || len(l[1]) != 10 {
		t.Errorf("Of changes what is handed in")
	}
	kept := first.Text()
	room[3] ^= 1
	if first.Text() != kept || sum.Of(l...) == first {
		t.Errorf("Of keeps what is handed in")
	}
	room[3] ^= 1
	if sum.Of(l...) != first {
		t.Errorf("Of hangs on what was asked before")
	}
}
