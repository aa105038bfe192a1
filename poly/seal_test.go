package poly_test

import (
	"bytes"
	"encoding/binary"
	"hash/crc32"
	"math/rand/v2"
	"testing"

	"tallyman/poly"
)

// reach is how many bytes side by side may be others, sealSize how many a
// seal has.
const reach, sealSize = 4, 4

// sizes are how many bytes are sealed where each place is spoilt.
func sizes() []int { return []int{0, 1, 2, 3, 4, 5, 8, 13, 40} }

// opens tells whether b is opened, and looks that nothing is told if not.
func opens(t *testing.T, b []byte) bool {
	t.Helper()
	got, ok := poly.Open(b)
	if !ok && len(got) != 0 {
		t.Errorf("Open of %x: false, and %x", b, got)
	}
	return ok
}

// P3.1: the bytes, and their CRC behind, the lowest byte first.
func TestSeal(t *testing.T) {
	for _, c := range []struct{ text, want string }{
		{"", "\x00\x00\x00\x00"},
		{"a", "a\x43\xbe\xb7\xe8"},
		{"123456789", "123456789\x26\x39\xf4\xcb"},
		{"\x00\x00\x00\x00", "\x00\x00\x00\x00\x1c\xdf\x44\x21"},
		{"\xff\xff\xff\xff", "\xff\xff\xff\xff\xff\xff\xff\xff"},
	} {
		if got := poly.Seal([]byte(c.text)); string(got) != c.want {
			t.Errorf("Seal of %q: %x, want %x", c.text, got, c.want)
		}
	}
	for _, n := range []int{1, 2, 3, 4, 5, 7, 64, 300, 131072} {
		b := pattern(n)
		want := binary.LittleEndian.AppendUint32(bytes.Clone(b), crc32.ChecksumIEEE(b))
		if got := poly.Seal(b); !bytes.Equal(got, want) {
			t.Errorf("Seal of %d bytes", n)
		}
	}
	if !bytes.Equal(poly.Seal(nil), make([]byte, 4)) {
		t.Errorf("Seal of nil: %x", poly.Seal(nil))
	}
}

// P3.1: Open is the way back, of sealed bytes that are sealed again too.
func TestOpen(t *testing.T) {
	for _, n := range []int{0, 1, 2, 3, 4, 5, 7, 64, 300, 131072} {
		b := pattern(n)
		got, ok := poly.Open(poly.Seal(b))
		if !ok || !bytes.Equal(got, b) {
			t.Errorf("Open of %d bytes: %d bytes, %v", n, len(got), ok)
		}
		once, ok := poly.Open(poly.Seal(poly.Seal(b)))
		if !ok || !bytes.Equal(once, poly.Seal(b)) {
			t.Errorf("Open of %d bytes, sealed two times: %v", n, ok)
		}
	}
}

// P3.1, R2: what no Seal has made: false, and nothing.
func TestOpenRefuses(t *testing.T) {
	sealed := poly.Seal([]byte("123456789"))
	for i := range len(sealed) {
		if opens(t, sealed[:i]) || i > 0 && opens(t, sealed[i:]) {
			t.Errorf("Open without the bytes from or up to %d", i)
		}
	}
	turned := []byte("123456789\xcb\xf4\x39\x26")
	for i, b := range [][]byte{
		nil, {}, {0}, {0, 0}, {0, 0, 0}, {1, 0, 0, 0}, {0, 0, 0, 1}, {255, 255, 255, 255}, make([]byte, 5), make([]byte, 8),
		turned, append(bytes.Clone(sealed), 0), append([]byte{0}, sealed...), bytes.Repeat(sealed, 2), []byte("123456789"),
	} {
		if opens(t, b) {
			t.Errorf("Open of number %d: %x", i, b)
		}
	}
}

// P3.1: of one, two bytes with every seal that is near: just the right one.
func TestOpenSeals(t *testing.T) {
	for i := range 256 {
		for j := range 256 {
			b := append([]byte{byte(i)}, 0x43, 0xbe, 0xb7, byte(j))
			want := crc32.ChecksumIEEE(b[:1]) == binary.LittleEndian.Uint32(b[1:])
			if opens(t, b) != want {
				t.Errorf("Open of %x: %v", b, !want)
			}
			b = []byte{byte(i), byte(j), 1, 2}
			if opens(t, b) {
				t.Errorf("Open of %x", b)
			}
		}
	}
}

// P3.2: each bit, each byte that becomes any other one.
func TestOpenOneByte(t *testing.T) {
	for _, n := range sizes() {
		sealed := poly.Seal(pattern(n))
		for at := range sealed {
			for by := 1; by < 256; by++ {
				sealed[at] ^= byte(by)
				if opens(t, sealed) {
					t.Errorf("Open of %d bytes with byte %d others by %02x", n, at, by)
				}
				sealed[at] ^= byte(by)
			}
		}
		if !opens(t, sealed) {
			t.Errorf("Open of %d bytes, made good again", n)
		}
	}
}

// P3.2: four bytes side by side, anywhere, across the seal too.
func TestOpenFourBytes(t *testing.T) {
	from := rand.New(rand.NewPCG(3, 2))
	for _, n := range sizes() {
		sealed := poly.Seal(pattern(n))
		for at := range len(sealed) - reach + 1 {
			window := sealed[at : at+reach]
			was := binary.LittleEndian.Uint32(window)
			for i := range 2000 {
				by := from.Uint32()
				if i < 32*32 {
					by = 1<<(i/32) | 1<<(i%32)
				}
				if by == 0 {
					continue
				}
				binary.LittleEndian.PutUint32(window, was^by)
				if opens(t, sealed) {
					t.Errorf("Open of %d bytes with four from %d on others by %08x", n, at, by)
				}
			}
			binary.LittleEndian.PutUint32(window, was)
		}
	}
}

// fault tells by what the seal of b is not its bytes' CRC: 0, if it is.
func fault(b []byte) uint32 {
	n := len(b) - sealSize
	return poly.Of(b[:n]) ^ binary.LittleEndian.Uint32(b[n:])
}

// P3.2: every change of four bytes, without trying each: a change's fault is
// its bits' faults put together by exclusive or. No change has none, if the 32
// bits' faults cannot be put together to nought.
func TestOpenEveryChange(t *testing.T) {
	for _, n := range append(sizes(), 300, 2000) {
		sealed := poly.Seal(pattern(n))
		for at := range len(sealed) - reach + 1 {
			var faults []uint32
			for bit := range 8 * reach {
				sealed[at+bit/8] ^= 1 << (bit % 8)
				faults = append(faults, fault(sealed))
				sealed[at+bit/8] ^= 1 << (bit % 8)
			}
			if got := rank(faults); got != 8*reach {
				t.Fatalf("of %d bytes, four from %d on: %d of 32 bits stand alone", n, at, got)
			}
		}
	}
}

// rank tells how many of l cannot be put together of the others.
func rank(l []uint32) int {
	var heads [32]uint32
	count := 0
	for _, x := range l {
		for i := 31; i >= 0 && x != 0; i-- {
			if x>>i&1 == 0 {
				continue
			}
			if heads[i] == 0 {
				heads[i] = x
				count++
				break
			}
			x ^= heads[i]
		}
	}
	return count
}

// P3.2: a seal's bytes in another order.
func TestOpenTurnedSeal(t *testing.T) {
	sealed := poly.Seal([]byte("123456789"))
	seal := bytes.Clone(sealed[9:])
	for i := range 256 {
		order := [sealSize]int{i & 3, i >> 2 & 3, i >> 4 & 3, i >> 6}
		for j, from := range order {
			sealed[9+j] = seal[from]
		}
		if opens(t, sealed) != (order == [sealSize]int{0, 1, 2, 3}) {
			t.Errorf("Open with the seal's bytes as %v", order)
		}
	}
}

// R4: neither Seal nor Open changes what is handed in, its spare room too.
func TestSealLeavesArguments(t *testing.T) {
	room := append(poly.Seal(pattern(20)), pattern(40)...)
	was := bytes.Clone(room)
	sealed := poly.Seal(room[:20])
	got, ok := poly.Open(room[:24])
	if !bytes.Equal(room, was) {
		t.Errorf("Seal, Open change what is handed in")
	}
	if !ok || !bytes.Equal(sealed, room[:24]) || !bytes.Equal(got, room[:20]) {
		t.Errorf("Seal, Open with spare room: %x, %x, %v", sealed, got, ok)
	}
}

// spoil turns all bits of b, and of its spare room.
func spoil(b []byte) {
	b = b[:cap(b)]
	for i := range b {
		b[i] ^= 255
	}
}

// R4: what Seal and Open tell is new memory, spare room too.
func TestSealAnswersNewMemory(t *testing.T) {
	for _, n := range []int{0, 1, 20} {
		room := append(poly.Seal(pattern(n)), pattern(40)...)
		was := bytes.Clone(room)
		sealed := poly.Seal(room[:n])
		got, ok := poly.Open(room[:n+sealSize])
		again, _ := poly.Open(room[:n+sealSize])
		twice := poly.Seal(room[:n])
		spoil(sealed)
		spoil(got)
		if !ok || !bytes.Equal(room, was) {
			t.Errorf("of %d bytes: an answer is what was handed in", n)
		}
		if !bytes.Equal(again, was[:n]) || !bytes.Equal(twice, was[:n+sealSize]) {
			t.Errorf("of %d bytes: two answers share what they are", n)
		}
	}
}

// R5: what Seal and Open tell hangs on nothing that was asked before.
func TestSealKeepsNothing(t *testing.T) {
	b := pattern(20)
	sealed := poly.Seal(b)
	was := bytes.Clone(sealed)
	got, _ := poly.Open(sealed)
	b[3]++
	sealed[5]++
	if !bytes.Equal(got, pattern(20)) || opens(t, sealed) {
		t.Errorf("Open keeps what is handed in")
	}
	sealed[5]--
	if !bytes.Equal(sealed, was) || !opens(t, sealed) || !bytes.Equal(poly.Seal(pattern(20)), was) {
		t.Errorf("Seal keeps what is handed in")
	}
}
