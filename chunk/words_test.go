package chunk_test

import (
	"bytes"
	"crypto/sha256"
	"math/big"
	"slices"
	"testing"

	"tallyman/api"
	"tallyman/chunk"
	"tallyman/set"
	"tallyman/sum"
)

// window tells a window's sum by the words of chapter 5, in whole numbers.
func window(b []byte) uint64 {
	all, base := new(big.Int), big.NewInt(257)
	for _, c := range b {
		all.Mul(all, base)
		all.Add(all, big.NewInt(int64(c)+1))
	}
	return all.Mod(all, big.NewInt(1<<61-1)).Uint64()
}

// wantCut tells Cut's answer by the words of chapters 5, 6 and 11.
func wantCut(b []byte) []chunk.Piece {
	var l []chunk.Piece
	for len(b) > 0 {
		end := min(128, len(b))
		for n := 16; n < end; n++ {
			if window(b[n-8:n])&31 == 7 {
				end = n
			}
		}
		l = append(l, piece(string(b[:end])))
		b = b[end:]
	}
	return l
}

// wantGood tells Good's answer by the document's words.
func wantGood(p chunk.Piece) bool {
	return len(p.B) >= 1 && len(p.B) <= 128 && sha256.Sum256(p.B) == p.Sum
}

// wantJoin tells Join's answer by the document's words, name by name.
func wantJoin(names []sum.Sum, have []chunk.Piece) ([]byte, api.Errno) {
	var b []byte
	for _, name := range names {
		i := slices.IndexFunc(have, func(p chunk.Piece) bool { return p.Sum == name })
		switch {
		case i < 0:
			return nil, api.ENONE
		case !wantGood(have[i]):
			return nil, api.ESUM
		}
		b = append(b, have[i].B...)
	}
	return b, api.OK
}

// wantAll tells All's answer by the document's words.
func wantAll(l [][]byte) set.Set {
	var all set.Set
	for _, b := range l {
		for _, p := range wantCut(b) {
			if !slices.Contains(all, p.Sum) {
				all = append(all, p.Sum)
			}
		}
	}
	slices.SortFunc(all, sum.Sum.Cmp)
	return all
}

// lists makes each list of at most n of some.
func lists[T any](some []T, n int) [][]T {
	l := [][]T{nil}
	from := 0
	for range n {
		to := len(l)
		for _, s := range l[from:to] {
			for _, x := range some {
				l = append(l, append(slices.Clone(s), x))
			}
		}
		from = to
	}
	return l
}

// P11.1: Join of each list of at most three names and four pieces, Good and
// not, told by the document's words.
func TestWordsJoin(t *testing.T) {
	long := string(noise(129, 1))
	pieces := []chunk.Piece{piece("a"), piece("bb"), says("a", "bb"), says("bb", "a"), says("a", ""), piece(long), {}}
	names := append(sums("a", "bb", long), sum.Sum{})
	all := lists(pieces, 4)
	for _, p := range pieces {
		if chunk.Good(p) != wantGood(p) {
			t.Errorf("Good of %v", p)
		}
	}
	for _, l := range lists(names, 3) {
		for _, have := range all {
			got, err := chunk.Join(l, have)
			want, wantErr := wantJoin(l, have)
			if err != wantErr || !bytes.Equal(got, want) {
				t.Fatalf("Join of %v; %v: %q, %v, want %q, %v", l, have, got, err, want, wantErr)
			}
		}
	}
}

// P11.1: each beginning and each end of many texts, cut by the document's
// words.
func TestWordsCut(t *testing.T) {
	for _, b := range texts() {
		for n := 0; n <= len(b); n += 1 + n/16 {
			for _, b := range [][]byte{b[:n], b[len(b)-n:]} {
				want := wantCut(b)
				if got := chunk.Cut(b); !same(got, want) {
					t.Fatalf("Cut of %q: %v", b, got)
				}
				if got := chunk.Names(b); !slices.Equal(got, sumsOf(want)) {
					t.Fatalf("Names of %q: %v", b, got)
				}
			}
		}
	}
}

// P11.1: All of each list of at most four of some texts.
func TestWordsAll(t *testing.T) {
	some := [][]byte{nil, []byte("a"), []byte("b"), make([]byte, 200), noise(200, 1), noise(400, 1)}
	for _, l := range lists(some, 4) {
		if got, want := chunk.All(l...), wantAll(l); !slices.Equal(got, want) {
			t.Fatalf("All of %q: %v, want %v", l, got, want)
		}
	}
}

// P11.1, R5: texts that change by small steps: what one has of the other's
// pieces, some of them spoilt, some not there, told by the document's words.
func TestWordsLong(t *testing.T) {
	seed := uint64(1)
	next := func(n int) int {
		seed = seed*6364136223846793005 + 1442695040888963407
		return int((seed >> 33) % uint64(n))
	}
	b := noise(1500, 4)
	seen := [3]int{}
	for range 300 {
		was := b
		at := next(len(b))
		to := at + next(min(60, len(b)-at))
		b = slices.Concat(b[:at], noise(next(60)+1, uint32(next(1000))), b[to:])
		names, want := chunk.Names(b), wantCut(b)
		have := append(chunk.Cut(was), chunk.Cut(b)...)
		if !same(have[len(have)-len(want):], want) || !slices.Equal(chunk.All(was, b), wantAll([][]byte{was, b})) {
			t.Fatalf("Cut or All of %q", b)
		}
		for i := range have {
			j := next(len(have))
			have[i], have[j] = have[j], have[i]
		}
		if got, err := chunk.Join(names, have); err != api.OK || !bytes.Equal(got, b) {
			t.Fatalf("Join of %q: %q, %v", b, got, err)
		}
		have = have[next(3):]
		if next(2) == 0 {
			spoil := have[next(len(have))]
			spoil.B[next(len(spoil.B))] ^= 1 << next(8)
		}
		got, err := chunk.Join(names, have)
		bytesWant, errWant := wantJoin(names, have)
		if err != errWant || !bytes.Equal(got, bytesWant) {
			t.Fatalf("Join of %q: %q, %v, want %v", b, got, err, errWant)
		}
		seen[min(int(err), 1)+int(err)/int(api.ESUM)]++
	}
	if slices.Min(seen[:]) == 0 {
		t.Errorf("of all three answers: %v", seen)
	}
}
