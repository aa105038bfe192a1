package chunk_test

import (
	"bytes"
	"crypto/sha256"
	"slices"
	"strings"
	"testing"

	"tallyman/api"
	"tallyman/chunk"
	"tallyman/cut"
	"tallyman/set"
	"tallyman/sum"
)

// noise makes n bytes that look like chance, and are the same each time.
func noise(n int, seed uint32) []byte {
	b := make([]byte, n)
	for i := range b {
		seed = seed*1103515245 + 12345
		b[i] = byte(seed >> 16)
	}
	return b
}

// count makes the bytes 0, 1, 2, .. 255, 0, 1, ..
func count(n int) []byte {
	b := make([]byte, n)
	for i := range b {
		b[i] = byte(i)
	}
	return b
}

// repeat makes a text often.
func repeat(s string, n int) []byte { return []byte(strings.Repeat(s, n)) }

// plain is chapter 6's plain rule, by its numbers.
func plain() cut.Rule {
	return cut.Rule{Min: 16, Max: 128, Window: 8, Mask: 31, Want: 7}
}

// texts has bytes of many kinds.
func texts() [][]byte {
	l := [][]byte{
		nil, {}, {0}, []byte("a"), []byte("0123456789"),
		make([]byte, 400), bytes.Repeat([]byte{255}, 400), count(700), noise(3000, 1), noise(2048, 2),
		repeat("abcdefghijklmnopqrstuvwxyz", 12), repeat("0123456789", 30),
		[]byte("the quick brown fox jumps over the lazy dog, and the dog lies down again"),
	}
	for _, n := range []int{15, 16, 17, 127, 128, 129, 255, 256, 257} {
		l = append(l, make([]byte, n), noise(n, uint32(n)), count(n))
	}
	return l
}

// piece makes one that is Good of 1 to MaxChunk bytes: its sum by the library.
func piece(b string) chunk.Piece {
	return chunk.Piece{Sum: sha256.Sum256([]byte(b)), B: []byte(b)}
}

// says makes one that says the sum of other bytes.
func says(name, b string) chunk.Piece {
	return chunk.Piece{Sum: sha256.Sum256([]byte(name)), B: []byte(b)}
}

// sums tells the sums of bytes, each text's own.
func sums(l ...string) []sum.Sum {
	var names []sum.Sum
	for _, b := range l {
		names = append(names, sha256.Sum256([]byte(b)))
	}
	return names
}

// same tells whether two lists of pieces are alike.
func same(a, b []chunk.Piece) bool {
	return slices.EqualFunc(a, b, func(p, q chunk.Piece) bool { return p.Sum == q.Sum && bytes.Equal(p.B, q.B) })
}

// sumsOf tells the sums that pieces say.
func sumsOf(l []chunk.Piece) []sum.Sum {
	var names []sum.Sum
	for _, p := range l {
		names = append(names, p.Sum)
	}
	return names
}

// P11.1: the chapter's example.
func TestExample(t *testing.T) {
	b := []byte("0123456789")
	if got := chunk.Cut(b); !same(got, []chunk.Piece{piece("0123456789")}) {
		t.Errorf("Cut of 10 bytes: %v", got)
	}
}

// P11.1: ends and sums that were worked out elsewhere.
func TestCutKnown(t *testing.T) {
	for _, c := range []struct {
		b    []byte
		ends []int
		sums []string
	}{
		{[]byte("the quick brown fox jumps over the lazy dog, and the dog lies down again"), []int{21, 72}, []string{
			"30192b04b98516c77a44b3be6fb9f933867a11bfd863ea3981c7eaab98ee7182",
			"18ca904c7c594d7429966d16561e5beb2d8f762dd78b188a83ad5b7639ed9727"}},
		{make([]byte, 300), []int{128, 256, 300}, []string{
			"38723a2e5e8a17aa7950dc008209944e898f69a7bd10a23c839d341e935fd5ca",
			"38723a2e5e8a17aa7950dc008209944e898f69a7bd10a23c839d341e935fd5ca",
			"85759b3811ff7dc47b03792ac85317be51431a3f9e01dcafce317ed736a391b0"}},
		{repeat("abcdefghijklmnopqrstuvwxyz", 12), []int{19, 37, 63, 89, 115, 141, 167, 193, 219, 245, 271, 297, 312}, []string{
			"e250f886728b77ba63722c7e65fc73e203101a84281b32332fd67cc6a1ae3e22",
			"ce48246431bacc99e70e40d8bf43c8281719ed5986a713d61ffc9499207494e0",
			"7f4094186d6ce9771ef6f99d1230d8f6a329d20956a6a8ca8219ed18b2eb94cf"}},
		{repeat("0123456789", 30), []int{17, 37, 57, 77, 97, 117, 137, 157, 177, 197, 217, 237, 257, 277, 297, 300}, []string{
			"a1913f91b2ed28db4fdb22ef207ced8c943b0cef0ad8e0d8d72a3d778c077a9d",
			"f8a10389b1c6dc7a01466eac119eddac2dc9a27efc8d9ebb7c9668af37a5e668",
			"f8a10389b1c6dc7a01466eac119eddac2dc9a27efc8d9ebb7c9668af37a5e668"}},
		{count(700), []int{104, 120, 248, 360, 376, 504, 616, 632, 700}, []string{
			"ae8e3d799b1353a39815f90eceebefa265cc448fe39faf2008cb20784cb2df9f",
			"eb2602aedc106ca95ec1c9e87a3eadb9e3ac2fb2540aa0907793cb238fcdaaf8",
			"2879d114a0a09b745d10807c27ee9abcc1c1ec4de1c8b9ff421e3d63b303a31a"}},
	} {
		pieces, names := chunk.Cut(c.b), chunk.Names(c.b)
		if len(pieces) != len(c.ends) || len(names) != len(c.ends) {
			t.Errorf("Cut of %q: %d pieces, %d names", c.b, len(pieces), len(names))
			continue
		}
		at := 0
		for i, end := range c.ends {
			if !bytes.Equal(pieces[i].B, c.b[at:end]) {
				t.Errorf("Cut of %q: piece %d is %q", c.b, i, pieces[i].B)
			}
			at = end
		}
		for i, text := range c.sums {
			if pieces[i].Sum.Text() != text || names[i].Text() != text {
				t.Errorf("Cut of %q: sum %d is %s, %s", c.b, i, pieces[i].Sum.Text(), names[i].Text())
			}
		}
	}
}

// P11.1: Cut is cut's Parts by Plain, each with its sum; Names their sums, in
// order; each piece is Good, and joined by their names they are the bytes.
func TestCut(t *testing.T) {
	for _, b := range texts() {
		var want []chunk.Piece
		for _, part := range cut.Parts(plain(), b) {
			want = append(want, piece(string(part)))
		}
		pieces, names := chunk.Cut(b), chunk.Names(b)
		if !same(pieces, want) {
			t.Fatalf("Cut of %q: %v", b, pieces)
		}
		if !slices.Equal(names, sumsOf(want)) {
			t.Fatalf("Names of %q: %v", b, names)
		}
		for i, p := range pieces {
			if !chunk.Good(p) {
				t.Errorf("Cut of %q: piece %d is not Good", b, i)
			}
		}
		if got, err := chunk.Join(names, pieces); err != api.OK || !bytes.Equal(got, b) {
			t.Errorf("Join of %q: %q, %v", b, got, err)
		}
	}
}

// P11.1: no bytes are no pieces.
func TestNoBytes(t *testing.T) {
	for _, b := range [][]byte{nil, {}, make([]byte, 0, 100)} {
		if len(chunk.Cut(b)) != 0 || len(chunk.Names(b)) != 0 || len(chunk.All(b)) != 0 {
			t.Error("pieces of no bytes")
		}
	}
}

// P11.1: a piece as often as it is there, not each once.
func TestNamesTwice(t *testing.T) {
	got := chunk.Names(make([]byte, 3*128))
	if want := sums(string(make([]byte, 128))); !slices.Equal(got, slices.Repeat(want, 3)) {
		t.Errorf("Names of what is thrice the same: %d", len(got))
	}
}

// P11.1: Good by how many bytes there are, by one.
func TestGoodLimits(t *testing.T) {
	if api.MaxChunk != 128 {
		t.Fatal("MaxChunk")
	}
	for _, n := range []int{0, 1, 2, 15, 16, 17, 64, 126, 127, 128, 129, 130, 256, 1 << 16, 1 << 20} {
		for _, b := range [][]byte{make([]byte, n), noise(n, 5), count(n)} {
			p := chunk.Piece{Sum: sha256.Sum256(b), B: b}
			if got := chunk.Good(p); got != (1 <= n && n <= 128) {
				t.Errorf("Good of %d bytes: %v", n, got)
			}
		}
	}
	for _, p := range []chunk.Piece{{}, {B: []byte{}}, piece(""), {B: make([]byte, 1)}, {Sum: sum.Of(nil), B: nil}} {
		if chunk.Good(p) {
			t.Errorf("Good of %v: true", p)
		}
	}
}

// P11.1: each bit of the sum tells, and each of the bytes.
func TestGoodSum(t *testing.T) {
	for _, n := range []int{1, 2, 16, 128} {
		p := chunk.Piece{Sum: sha256.Sum256(count(n)), B: count(n)}
		for i := range 8 * len(p.Sum) {
			bad := p
			bad.Sum[i/8] ^= 1 << (i % 8)
			if chunk.Good(bad) {
				t.Errorf("Good of %d bytes with another sum at bit %d: true", n, i)
			}
		}
		for i := range 8 * n {
			bad := chunk.Piece{Sum: p.Sum, B: count(n)}
			bad.B[i/8] ^= 1 << (i % 8)
			if chunk.Good(bad) {
				t.Errorf("Good of %d bytes that are others at bit %d: true", n, i)
			}
		}
		if chunk.Good(chunk.Piece{Sum: p.Sum, B: p.B[:n-1]}) || chunk.Good(chunk.Piece{Sum: p.Sum, B: append(count(n), 0)}) {
			t.Errorf("Good of one more or one less than %d bytes: true", n)
		}
		if !chunk.Good(p) {
			t.Errorf("Good of %d bytes: false", n)
		}
	}
}

// P11.1: the names of all, each once, rising; of none, nothing.
func TestAll(t *testing.T) {
	a, b, c := noise(1000, 1), noise(700, 2), make([]byte, 500)
	for _, l := range [][][]byte{
		nil, {}, {nil}, {nil, {}}, {a}, {a, b}, {b, a}, {a, a}, {c}, {c, c}, {a, b, c}, {c, nil, a}, {c[:128], c[:256], c[:300]}, {a[:500], a[500:]}, {a, a[:500]},
	} {
		var names []sum.Sum
		for _, b := range l {
			for _, part := range cut.Parts(plain(), b) {
				names = append(names, sha256.Sum256(part))
			}
		}
		slices.SortFunc(names, sum.Sum.Cmp)
		want := slices.Compact(names)
		if got := chunk.All(l...); !slices.Equal(got, want) {
			t.Errorf("All of %d texts: %d names, want %d", len(l), len(got), len(want))
		}
	}
	if got := chunk.All([]byte("b"), []byte("a"), []byte("b")); !slices.Equal(got, set.Of(sums("a", "b")...)) {
		t.Errorf("All of three: %v", got)
	}
}

// P11.1: the names of all, be they more than a set that is Good has.
func TestAllMany(t *testing.T) {
	var l [][]byte
	for i := range 2000 {
		l = append(l, []byte{byte(i >> 8), byte(i)})
	}
	for _, n := range []int{511, 512, 513, 2000} {
		got := chunk.All(l[:n]...)
		if len(got) != n || set.Good(got) != (n <= 512) {
			t.Errorf("All of %d texts: %d, Good %v", n, len(got), set.Good(got))
		}
		for _, b := range l[:n] {
			if _, there := slices.BinarySearchFunc(got, sum.Sum(sha256.Sum256(b)), sum.Sum.Cmp); !there {
				t.Fatalf("All of %d texts: %x is not there", n, b)
			}
		}
	}
}

// P11.1, T5: where two texts are alike from an end on, so are their pieces:
// few come new by a small change.
func TestFewNew(t *testing.T) {
	for at := 0; at < 4000; at += 97 {
		was := noise(4000, 11)
		is := slices.Concat(was[:at], []byte("new"), was[at:])
		if got := set.Minus(chunk.All(is), chunk.All(was)); len(got) == 0 || len(got) > 8 {
			t.Errorf("three bytes more at %d: %d new pieces", at, len(got))
		}
	}
}
