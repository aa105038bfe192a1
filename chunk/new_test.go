package chunk_test

import (
	"bytes"
	"slices"
	"testing"

	"tallyman/chunk"
	"tallyman/sum"
)

// roomy makes bytes with spare room behind them, and the whole of it.
func roomy(b []byte) (part, whole []byte) {
	whole = append(slices.Clone(b), "spare room"...)
	return whole[:len(b)], whole
}

// spoil writes over bytes, spare room too.
func spoil(b []byte) {
	b = b[:cap(b)]
	for i := range b {
		b[i] ^= 255
	}
}

// spoilPieces writes over the bytes of pieces, then over themselves, spare room
// too.
func spoilPieces(l []chunk.Piece) {
	for _, p := range l {
		spoil(p.B)
	}
	l = l[:cap(l)]
	for i := range l {
		l[i] = chunk.Piece{Sum: sum.Sum{9}, B: []byte("spoilt")}
	}
}

// spoilSums writes over sums, spare room too.
func spoilSums(l []sum.Sum) {
	l = l[:cap(l)]
	for i := range l {
		l[i] = sum.Sum{8}
	}
}

// clone makes pieces anew, bytes and all.
func clone(l []chunk.Piece) []chunk.Piece {
	l = slices.Clone(l)
	for i := range l {
		l[i].B = slices.Clone(l[i].B)
	}
	return l
}

// R3, R4: bytes that are handed in are not changed, spare room included, and
// not kept; what is answered is new memory, spare room too.
func TestBytesNew(t *testing.T) {
	for _, text := range texts() {
		b, whole := roomy(text)
		was := slices.Clone(whole)
		pieces, names, all := chunk.Cut(b), chunk.Names(b), chunk.All(b, b)
		if !bytes.Equal(whole, was) {
			t.Fatalf("%q is changed", text)
		}
		wantPieces, wantNames, wantAll := clone(pieces), slices.Clone(names), slices.Clone(all)
		spoil(whole)
		if !same(pieces, wantPieces) || !slices.Equal(names, wantNames) || !slices.Equal(all, wantAll) {
			t.Fatalf("%q is kept", text)
		}
		spoil(whole)
		spoilPieces(pieces)
		spoilSums(names)
		spoilSums(all)
		if !bytes.Equal(whole, was) {
			t.Fatalf("%q is answered", text)
		}
		if !same(chunk.Cut(b), wantPieces) || !slices.Equal(chunk.Names(b), wantNames) || !slices.Equal(chunk.All(b, b), wantAll) {
			t.Fatalf("%q: another answer again", text)
		}
	}
}

// R4: no two pieces of one answer share any memory, spare room too.
func TestPiecesAlone(t *testing.T) {
	for _, text := range texts() {
		for i := range chunk.Cut(text) {
			pieces := chunk.Cut(text)
			want := clone(pieces)
			spoil(pieces[i].B)
			_ = append(pieces[i].B, "more"...)
			for j := range pieces {
				if j != i && !bytes.Equal(pieces[j].B, want[j].B) {
					t.Fatalf("Cut of %q: piece %d shares with %d", text, i, j)
				}
			}
		}
	}
}

// R3, R4: All's list of texts is not changed, spare room included.
func TestAllLeaves(t *testing.T) {
	whole := [][]byte{noise(300, 2), noise(300, 1), nil, []byte("a"), []byte("spare")}
	was := slices.Clone(whole)
	chunk.All(whole[:4]...)
	for i := range whole {
		if !bytes.Equal(whole[i], was[i]) {
			t.Errorf("All changes text %d", i)
		}
	}
}

// R3, R4: neither the names nor the pieces that are handed in to Join are
// changed, spare room included, nor kept; the bytes are new memory.
func TestJoinNew(t *testing.T) {
	text := noise(400, 6)
	for _, n := range []int{0, 1, 2, 3, len(chunk.Names(text))} {
		wholeNames := append(chunk.Names(text)[:n:n], sum.Sum{1}, sum.Sum{2})
		wholeHave := append(chunk.Cut(text), piece("spare"), piece("room"))
		for i := range wholeHave {
			_, whole := roomy(wholeHave[i].B)
			wholeHave[i].B = whole[:len(wholeHave[i].B)]
		}
		names, have := wholeNames[:n], wholeHave[:len(wholeHave)-2]
		wasNames, wasHave := slices.Clone(wholeNames), clone(wholeHave)
		got, err := chunk.Join(names, have)
		want := slices.Clone(got)
		left := func() bool {
			for _, p := range wholeHave {
				if whole := p.B[:len(p.B)+10]; string(whole[len(p.B):]) != "spare room" {
					return false
				}
			}
			return slices.Equal(wholeNames, wasNames) && same(wholeHave, wasHave)
		}
		if !left() {
			t.Fatalf("Join of %d names changes what is handed in", n)
		}
		spoil(got)
		if !left() {
			t.Fatalf("Join of %d names answers what is handed in", n)
		}
		if again, errAgain := chunk.Join(names, have); errAgain != err || !bytes.Equal(again, want) {
			t.Fatalf("Join of %d names: %q again, want %q", n, again, want)
		}
		got, _ = chunk.Join(names, have)
		spoilPieces(wholeHave)
		spoilSums(wholeNames)
		if !bytes.Equal(got, want) {
			t.Fatalf("Join of %d names keeps what is handed in", n)
		}
	}
}

// R3, R4: a Join that is refused, and Good, change nothing either.
func TestRefusedLeaves(t *testing.T) {
	for _, have := range [][]chunk.Piece{
		{piece("a"), says("b", "a"), {}}, {says("a", ""), piece("a")}, {piece("c")}, nil,
	} {
		was := clone(have)
		names := sums("a", "b", "c")
		wasNames := slices.Clone(names)
		chunk.Join(names, have)
		for _, p := range have {
			chunk.Good(p)
		}
		if !same(have, was) || !slices.Equal(names, wasNames) {
			t.Errorf("%v is now %v", was, have)
		}
	}
}
