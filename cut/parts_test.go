package cut_test

import (
	"bytes"
	"slices"
	"testing"

	"tallyman/cut"
)

// wantEnds tells Ends' answer by the document's words.
func wantEnds(r cut.Rule, b []byte) []int {
	var l []int
	for at := 0; at < len(b); {
		at += wantNext(r, b[at:])
		l = append(l, at)
	}
	return l
}

// P6.1: ends that were worked out elsewhere, in whole numbers.
func TestEndsKnown(t *testing.T) {
	for _, c := range []struct {
		r    cut.Rule
		b    []byte
		want []int
	}{
		{cut.Plain(), noise(600, 1), []int{54, 86, 104, 168, 193, 212, 238, 269, 285, 316, 332, 350, 458, 504, 582, 600}},
		{cut.Plain(), make([]byte, 300), []int{128, 256, 300}},
		{cut.Plain(), bytes.Repeat([]byte("abcdefghijklmnopqrstuvwxyz"), 10), []int{19, 37, 63, 89, 115, 141, 167, 193, 219, 245, 260}},
		{cut.Plain(), []byte("the quick brown fox jumps over the lazy dog, and the dog lies down again, and the fox jumps over it once more"), []int{21, 93, 109}},
		{cut.Rule{Min: 1, Max: 4, Window: 1, Mask: 3}, []byte("abcdefghijklmnop"), []int{3, 7, 11, 15, 16}},
		{cut.Rule{Min: 2, Max: 5, Window: 2, Mask: 7, Want: 3}, []byte("abcdefghijklmnop"), []int{5, 9, 13, 16}},
		{cut.Rule{Min: 64, Max: 200, Window: 64, Mask: 63, Want: 9}, noise(1000, 2), []int{78, 206, 317, 384, 534, 696, 789, 909, 1000}},
		{cut.Rule{Min: 20, Max: 90, Window: 16, Mask: 1 << 60, Want: 1 << 60}, noise(400, 3), []int{20, 44, 64, 86, 107, 127, 147, 169, 189, 209, 229, 249, 271, 291, 311, 331, 352, 372, 392, 400}},
	} {
		if got := cut.Ends(c.r, c.b); !slices.Equal(got, c.want) {
			t.Errorf("Ends by %+v of %q: %v, want %v", c.r, c.b, got, c.want)
		}
	}
}

// P6.1: each piece is cut from what is left, by Next.
func TestEnds(t *testing.T) {
	for _, r := range rules() {
		for _, b := range texts() {
			for _, n := range []int{0, 1, 2, 15, 16, 17, 63, 64, 65, 127, 128, 129, 256, 257, len(b)} {
				b := b[:min(n, len(b))]
				got := cut.Ends(r, b)
				if want := wantEnds(r, b); !slices.Equal(got, want) {
					t.Fatalf("Ends by %+v of %q: %v, want %v", r, b, got, want)
				}
				at := 0
				for _, end := range got {
					if at+cut.Next(r, b[at:]) != end {
						t.Fatalf("Ends by %+v of %q: %v is not by Next", r, b, got)
					}
					at = end
				}
				if at != len(b) {
					t.Fatalf("Ends by %+v of %d bytes: to %d", r, len(b), at)
				}
			}
		}
	}
}

// P6.1: no bytes, no pieces.
func TestNoBytes(t *testing.T) {
	for _, r := range append(rules(), goods()...) {
		for _, b := range [][]byte{nil, {}, make([]byte, 0, 99)} {
			if e, p, n := cut.Ends(r, b), cut.Parts(r, b), cut.Next(r, b); len(e) != 0 || len(p) != 0 || n != 0 {
				t.Errorf("by %+v, of no bytes: %v, %v, %d", r, e, p, n)
			}
		}
	}
}

// P6.1: Parts are the bytes from end to end.
func TestParts(t *testing.T) {
	for _, r := range rules() {
		for _, b := range texts() {
			parts := cut.Parts(r, b)
			ends := wantEnds(r, b)
			if len(parts) != len(ends) {
				t.Fatalf("Parts by %+v of %q: %d, want %d", r, b, len(parts), len(ends))
			}
			at := 0
			for i, p := range parts {
				if !bytes.Equal(p, b[at:ends[i]]) {
					t.Fatalf("Parts by %+v of %q: number %d: %q, want %q", r, b, i, p, b[at:ends[i]])
				}
				at = ends[i]
			}
		}
	}
}

// P6.1, the example: ten bytes are one piece; so are up to sixteen.
func TestPartsOfFew(t *testing.T) {
	for n := 1; n <= 16; n++ {
		b := noise(n, 8)
		if got := cut.Parts(cut.Plain(), b); len(got) != 1 || !bytes.Equal(got[0], b) {
			t.Errorf("Parts of %d bytes: %q", n, got)
		}
	}
	if got := cut.Parts(cut.Plain(), []byte("0123456789")); len(got) != 1 || string(got[0]) != "0123456789" {
		t.Errorf("Parts of 10 bytes: %q", got)
	}
}

// P6.2: pieces but the last have Min to Max bytes, the last one to Max; put
// together they are b.
func TestPartsSizes(t *testing.T) {
	for _, r := range rules() {
		for n := 0; n <= 1500; n += 37 {
			b := noise(n, uint32(n)+uint32(r.Max))
			parts := cut.Parts(r, b)
			if got := bytes.Join(parts, nil); !bytes.Equal(got, b) {
				t.Fatalf("Parts by %+v of %d bytes: %d together", r, n, len(got))
			}
			for i, p := range parts {
				least := r.Min
				if i == len(parts)-1 {
					least = 1
				}
				if len(p) < least || len(p) > r.Max {
					t.Fatalf("Parts by %+v of %d bytes: number %d of %d has %d", r, n, i, len(parts), len(p))
				}
			}
		}
	}
}

// P6.2: where two texts are alike from an end of both on, so are their ends.
func TestEndsMeet(t *testing.T) {
	for _, r := range rules() {
		tail := noise(900, 11)
		var first []int
		for _, head := range [][]byte{nil, noise(r.Max, 12), noise(3*r.Max, 13), make([]byte, 2*r.Max), bytes.Repeat([]byte{200}, 5*r.Max)} {
			head = head[:wholeOf(r, head)]
			if len(head) > 5000 {
				continue
			}
			got := behind(cut.Ends(r, append(bytes.Clone(head), tail...)), len(head))
			if first == nil {
				first = got
			}
			if !slices.Equal(got, first) {
				t.Errorf("Ends by %+v behind %d bytes: %v, want %v", r, len(head), got, first)
			}
		}
	}
}

// wholeOf tells how far b goes in pieces that do not end because b does.
func wholeOf(r cut.Rule, b []byte) int {
	ends := cut.Ends(r, append(bytes.Clone(b), make([]byte, r.Max)...))
	last := 0
	for _, e := range ends {
		if e <= len(b) {
			last = e
		}
	}
	return last
}

// behind tells the ends behind a place, reckoned from there on; at the place
// itself one must be, but at the beginning.
func behind(ends []int, place int) []int {
	var l []int
	found := place == 0
	for _, e := range ends {
		found = found || e == place
		if e > place {
			l = append(l, e-place)
		}
	}
	if !found {
		return nil
	}
	return l
}

// P6.2: a byte that is put in, taken out, turned tells on few pieces alone:
// behind the first end that both have all are alike.
func TestEndsAfterChange(t *testing.T) {
	b := noise(4000, 21)
	for _, at := range []int{0, 1, 7, 54, 100, 1000, 1001} {
		turned := bytes.Clone(b)
		turned[at] ^= 1
		for i, other := range [][]byte{
			slices.Concat(b[:at], []byte{9}, b[at:]),
			slices.Concat(b[:at], b[at+1:]),
			slices.Concat(b[:at], []byte("some more, here and now"), b[at:]),
			turned,
		} {
			left := fromEnd(cut.Ends(cut.Plain(), b), len(b))
			right := fromEnd(cut.Ends(cut.Plain(), other), len(other))
			shared := slices.IndexFunc(left, func(e int) bool { return e < len(b)-at && slices.Contains(right, e) })
			if shared < 0 || len(b)-left[shared] > at+1000 {
				t.Fatalf("a change of kind %d at %d: the ends do not meet", i, at)
			}
			from := slices.Index(right, left[shared])
			if !slices.Equal(left[shared:], right[from:]) {
				t.Errorf("a change of kind %d at %d: %v, %v", i, at, left[shared:], right[from:])
			}
		}
	}
}

// fromEnd tells ends by how many bytes are behind them.
func fromEnd(ends []int, n int) []int {
	var l []int
	for _, e := range ends {
		l = append(l, n-e)
	}
	return l
}

// R4: what is handed in stays as it is, spare room too, and is not kept.
func TestLeavesArguments(t *testing.T) {
	room := noise(1000, 31)
	was := bytes.Clone(room)
	b := room[100:700:900]
	parts, ends := cut.Parts(cut.Plain(), b), cut.Ends(cut.Plain(), b)
	cut.Next(cut.Plain(), b)
	if !bytes.Equal(room, was) {
		t.Errorf("what was handed in is changed")
	}
	if !slices.Equal(ends, wantEnds(cut.Plain(), was[100:700])) {
		t.Errorf("Ends reads what is not b's: %v", ends)
	}
	for i := range room {
		room[i] ^= 0xFF
	}
	if !bytes.Equal(bytes.Join(parts, nil), was[100:700]) {
		t.Errorf("Parts keeps what was handed in")
	}
}

// R4: what is answered is new memory, spare room too; no two pieces share any.
func TestPartsAlone(t *testing.T) {
	for _, r := range rules() {
		b := noise(900, 33)
		was := bytes.Clone(b)
		parts := cut.Parts(r, b)
		// The last one first: what one has too much of would go over the next.
		for i, p := range slices.Backward(parts) {
			full := p[:cap(p)]
			for k := range full {
				full[k] = byte(i)
			}
		}
		for i, p := range parts {
			for _, c := range p {
				if c != byte(i) {
					t.Fatalf("Parts by %+v: number %d shares its bytes", r, i)
				}
			}
		}
		if !bytes.Equal(b, was) {
			t.Fatalf("Parts by %+v share bytes with what was handed in", r)
		}
	}
}

// R5: a call hangs on its arguments alone, whatever was asked ahead.
func TestAgain(t *testing.T) {
	b := noise(800, 35)
	for _, r := range rules() {
		ends, next := cut.Ends(r, b), cut.Next(r, b)
		for _, o := range rules() {
			cut.Ends(o, b[3:])
			cut.Next(o, b[5:])
		}
		if !slices.Equal(cut.Ends(r, b), ends) || cut.Next(r, b) != next {
			t.Errorf("by %+v: another answer the second time", r)
		}
		if len(ends) > 0 {
			ends[0] = -1
			if cut.Ends(r, b)[0] == -1 {
				t.Errorf("by %+v: Ends keeps what it answers", r)
			}
		}
	}
}

// R1: many bytes, with the widest window and the longest pieces, and with the
// least of both.
func TestMany(t *testing.T) {
	b := noise(4<<20, 41)
	for _, r := range []cut.Rule{
		{Min: 64, Max: 65536, Window: 64, Mask: 0, Want: 1},
		{Min: 1, Max: 65536, Window: 1, Mask: 0, Want: 1},
		{Min: 1, Max: 1, Window: 1},
		{Min: 64, Max: 64, Window: 64},
	} {
		parts := cut.Parts(r, b)
		size := r.Max
		if want := len(b) / size; len(parts) != want {
			t.Errorf("Parts by %+v: %d, want %d", r, len(parts), want)
		}
		for _, p := range parts {
			if len(p) != size {
				t.Fatalf("Parts by %+v: one of %d", r, len(p))
			}
		}
	}
}
