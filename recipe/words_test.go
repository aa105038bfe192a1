package recipe_test

import (
	"bytes"
	"crypto/sha256"
	"encoding/binary"
	"slices"
	"strings"
	"testing"

	"tallyman/api"
	"tallyman/chunk"
	"tallyman/recipe"
	"tallyman/sum"
	"tallyman/tree"
)

// wantName tells whether a path may have a name, by chapter 7's words.
func wantName(name string) bool {
	const may = "abcdefghijklmnopqrstuvwxyz0123456789.-_"
	return len(name) >= 1 && len(name) <= 16 && name != "." && name != ".." && strings.Trim(name, may) == ""
}

// wantGood tells Good's answer by the document's words.
func wantGood(r recipe.Recipe) bool {
	dirs := map[string]bool{"": true}
	var ahead []string
	for i, l := range r {
		names := strings.Split(l.Path, "/")
		up := strings.Join(names[:len(names)-1], "/")
		switch {
		case i >= 40, len(names) > 4, names[0] == ".work", !dirs[up]:
			return false
		case slices.ContainsFunc(names, func(n string) bool { return !wantName(n) }):
			return false
		case i > 0 && slices.Compare(ahead, names) >= 0:
			return false
		case l.Dir && (len(l.Names) > 0 || l.Whole != sum.Sum{}), !l.Dir && len(l.Names) > 2048:
			return false
		}
		if l.Dir {
			dirs[l.Path] = true
		}
		ahead = names
	}
	return true
}

// wantPut tells Put's answer by the document's words.
func wantPut(r recipe.Recipe) []byte {
	if !wantGood(r) {
		return nil
	}
	var b []byte
	for _, l := range r {
		b = append(binary.AppendUvarint(b, uint64(len(l.Path))), l.Path...)
		if l.Dir {
			b = append(b, 1)
			continue
		}
		b = append(append(b, 0), l.Whole[:]...)
		b = binary.AppendUvarint(b, uint64(len(l.Names)))
		for _, n := range l.Names {
			b = append(b, n[:]...)
		}
	}
	return b
}

// input is bytes that are read from their beginning on. What can't be read
// stops it by a panic with the error.
type input struct{ b []byte }

func (in *input) take(n int) []byte {
	if n > len(in.b) {
		panic(api.EMORE)
	}
	b := in.b[:n]
	in.b = in.b[n:]
	return b
}

func (in *input) sum() sum.Sum { return sum.Sum(in.take(32)) }

// number reads one that is at most most.
func (in *input) number(most uint64) int {
	v, n := binary.Uvarint(in.b)
	switch {
	case n == 0 && len(in.b) < 10:
		panic(api.EMORE)
	case n <= 0 || n != len(binary.AppendUvarint(nil, v)) || v > most:
		panic(api.EFORM)
	}
	in.take(n)
	return int(v)
}

// wantGet tells Get's answer by the document's words.
func wantGet(b []byte) (r recipe.Recipe, err api.Errno) {
	defer func() {
		if e := recover(); e != nil {
			r, err = nil, e.(api.Errno)
		}
	}()
	for in := (&input{b}); len(in.b) > 0; {
		l := recipe.Line{Path: string(in.take(in.number(68)))}
		switch in.take(1)[0] {
		case 0:
			l.Whole = in.sum()
			for range in.number(2048) {
				l.Names = append(l.Names, in.sum())
			}
		case 1:
			l.Dir = true
		default:
			return nil, api.EFORM
		}
		r = append(r, l)
	}
	if !wantGood(r) {
		return nil, api.EFORM
	}
	return r, api.OK
}

// wantBake tells Bake's answer by the document's words.
func wantBake(r recipe.Recipe, have []chunk.Piece) (tree.Tree, api.Errno) {
	if !wantGood(r) {
		return tree.Tree{}, api.EARG
	}
	var t tree.Tree
	all := 0
	full := false
	for _, l := range r {
		e := tree.Entry{Path: l.Path, Dir: l.Dir}
		for _, name := range l.Names {
			i := slices.IndexFunc(have, func(p chunk.Piece) bool { return p.Sum == name })
			if i < 0 {
				return tree.Tree{}, api.ENONE
			}
			if len(have[i].B) < 1 || len(have[i].B) > 128 || sha256.Sum256(have[i].B) != name {
				return tree.Tree{}, api.ESUM
			}
			e.B = append(e.B, have[i].B...)
		}
		if !l.Dir && sha256.Sum256(e.B) != l.Whole {
			return tree.Tree{}, api.ESUM
		}
		all += len(e.B)
		full = full || len(e.B) > 2048 || all > 16384
		t.L = append(t.L, e)
	}
	if full {
		return tree.Tree{}, api.EFULL
	}
	return t, api.OK
}

// is looks what all calls tell of a recipe, with some pieces.
func is(t *testing.T, r recipe.Recipe, haves ...[]chunk.Piece) {
	t.Helper()
	put := wantPut(r)
	if recipe.Good(r) != wantGood(r) || !bytes.Equal(recipe.Put(r), put) || recipe.Tell(r) != sha256.Sum256(put) {
		t.Fatalf("of %s: Good %v, Put %x", show(r), recipe.Good(r), recipe.Put(r))
	}
	var needs []sum.Sum
	for _, l := range r {
		for _, n := range l.Names {
			if !slices.Contains(needs, n) {
				needs = append(needs, n)
			}
		}
	}
	slices.SortFunc(needs, sum.Sum.Cmp)
	if got := recipe.Needs(r); !slices.Equal(got, needs) {
		t.Fatalf("Needs of %s: %d", show(r), len(got))
	}
	if wantGood(r) {
		gets(t, put, r, api.OK)
	}
	for _, have := range haves {
		want, err := wantBake(r, have)
		got, gotErr := recipe.Bake(r, have)
		if gotErr != err || !tree.Same(got, want) {
			t.Fatalf("Bake of %s: %d, %v, want %d, %v", show(r), len(got.L), gotErr, len(want.L), err)
		}
	}
}

// lists makes each list of at most n of some.
func lists[T any](some []T, n int) [][]T {
	l := [][]T{nil}
	from := 0
	for range n {
		to := len(l)
		for _, s := range l[from:to] {
			for _, x := range some {
				l = append(l, append(slices.Clone(s), x))
			}
		}
		from = to
	}
	return l
}

// P12.1: each list of at most three of many lines, by the document's words.
func TestWordsLines(t *testing.T) {
	lines := []recipe.Line{{}, {Path: "a", Dir: true, Names: sums("x")}, {Path: "a", Dir: true, Whole: sum.Sum{31: 1}}, {Path: "b", Names: sums("x", "y")}}
	for _, p := range []string{"a", "a/b", "a/b/c", "a-b", "b", ".work", ".work/t1", "A", "a/", ".a"} {
		lines = append(lines, dir(p), file(p, "x", "y"))
	}
	have := [][]chunk.Piece{pieces("x", "y"), pieces("x"), append(pieces("y"), chunk.Piece{Sum: piece("x").Sum, B: []byte("y")})}
	for _, r := range lists(lines, 3) {
		is(t, r, have...)
	}
}

// P12.1: each list of at most four files' parts and two files, with pieces
// that are there, are not, and lie, by the document's words.
func TestWordsBake(t *testing.T) {
	big := strings.Repeat("q", 128)
	long := slices.Repeat([]string{big}, 16)
	lines := []recipe.Line{file("", "x"), file(""), file("", "y", "x"), file("", "z"), {Whole: sum.Sum{1}}, {Names: sums("x")}, file("", long...), file("", append(long[:16:16], "x")...)}
	lie := func(name, b string) chunk.Piece { return chunk.Piece{Sum: piece(name).Sum, B: []byte(b)} }
	some := []chunk.Piece{piece("x"), piece("y"), piece(big), lie("x", "y"), lie("y", ""), lie("z", big)}
	haves := lists(some, 3)
	for _, r := range lists(lines, 2) {
		for i := range r {
			r[i].Path = string(rune('a' + i))
		}
		is(t, r, haves...)
	}
	for _, n := range []int{3, 7, 8, 9} {
		var r recipe.Recipe
		for i := range n {
			l := file(string(rune('a'+i)), long...)
			r = append(r, l)
		}
		is(t, r, haves[:50]...)
		is(t, append(r, file("x", "x")), haves...)
	}
}

// P12.1: each text of few bytes that tell, by the document's words.
func TestWordsGet(t *testing.T) {
	for _, b := range lists([]byte{0, 1, 2, 'a', '/', 128}, 7) {
		got, err := recipe.Get(b)
		want, wantErr := wantGet(b)
		if err != wantErr || !same(got, want) {
			t.Fatalf("Get of %x: %s, %v, want %s, %v", b, show(got), err, show(want), wantErr)
		}
	}
}

// P12.1: each list of at most four parts of lines, by the document's words.
func TestWordsGetParts(t *testing.T) {
	whole := strings.Repeat("w", 32)
	parts := []string{"\x01a", "\x03a/b", "\x05.work", "\x45", "\x00", "\x01", "\x00" + whole, whole, whole[1:], "\x02", "\x80\x10", "\x81\x10", "\x80\x00"}
	for _, l := range lists(parts, 4) {
		b := []byte(strings.Join(l, ""))
		got, err := recipe.Get(b)
		want, wantErr := wantGet(b)
		if err != wantErr || !same(got, want) {
			t.Fatalf("Get of %x: %s, %v, want %s, %v", b, show(got), err, show(want), wantErr)
		}
	}
}

// P12.1, R5: trees that change by small steps: what one has of the other's
// pieces, some of them spoilt, some not there.
func TestWordsLong(t *testing.T) {
	seed := uint64(5)
	next := func(n int) int {
		seed = seed*6364136223846793005 + 1442695040888963407
		return int((seed >> 33) % uint64(n))
	}
	paths := []string{"a", "a/b", "a/b/c", "a/b/c/d", "a-b", ".work", ".work/t1", "b", "c", "c/d"}
	var one tree.Tree
	seen := map[api.Errno]int{}
	for range 600 {
		p := paths[next(len(paths))]
		was := one
		switch next(5) {
		case 0:
			one, _ = tree.Make(one, p)
		case 1:
			one, _ = tree.Remove(one, p)
		default:
			one, _ = tree.Put(one, p, noise(next(700), uint32(next(4))))
		}
		r := recipe.Of(one)
		have := append(all(was), all(one)...)
		bakes(t, r, have, tree.Clean(one), api.OK)
		for i := range have {
			j := next(len(have))
			have[i], have[j] = have[j], have[i]
		}
		if len(have) > 0 {
			have = have[next(min(12, len(have))):]
			spoil := have[next(len(have))]
			spoil.B[next(len(spoil.B))] ^= byte(next(3))
		}
		is(t, r, have, all(was))
		_, err := recipe.Bake(r, have)
		seen[err]++
	}
	for _, err := range []api.Errno{api.OK, api.ENONE, api.ESUM} {
		if seen[err] < 20 {
			t.Errorf("of all answers: %v", seen)
		}
	}
}
