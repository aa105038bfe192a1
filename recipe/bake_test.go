package recipe_test

import (
	"slices"
	"strings"
	"testing"

	"tallyman/api"
	"tallyman/chunk"
	"tallyman/recipe"
	"tallyman/sum"
	"tallyman/tree"
)

// bakes looks what Bake tells.
func bakes(t *testing.T, r recipe.Recipe, have []chunk.Piece, want tree.Tree, err api.Errno) {
	t.Helper()
	got, gotErr := recipe.Bake(r, have)
	if gotErr != err || !tree.Same(got, want) {
		t.Errorf("Bake of %s: %d entries, %v, want %d, %v", show(r), len(got.L), gotErr, len(want.L), err)
	}
}

// P12.1: of all pieces of a tree, in any order, it is the tree again.
func TestBakeTrees(t *testing.T) {
	for _, one := range trees() {
		r, have := recipe.Of(one), all(one)
		bakes(t, r, have, one, api.OK)
		slices.Reverse(have)
		bakes(t, r, have, one, api.OK)
		bakes(t, r, append(have, piece("more"), chunk.Piece{}), one, api.OK)
	}
	with := text(".work/ .work/t1=x a/ a/b=y")
	bakes(t, recipe.Of(with), all(with), text("a/ a/b=y"), api.OK)
}

// P12.1: without any one of its pieces, or with it spoilt, there is no tree.
func TestBakeEachPiece(t *testing.T) {
	for _, one := range trees() {
		r, names := recipe.Of(one), recipe.Needs(recipe.Of(one))
		for _, name := range names {
			is := func(p chunk.Piece) bool { return p.Sum == name }
			have := slices.DeleteFunc(all(one), is)
			bakes(t, r, have, tree.Tree{}, api.ENONE)
			bakes(t, r, append(have, chunk.Piece{Sum: name, B: []byte("lie")}), tree.Tree{}, api.ESUM)
		}
	}
}

// P12.1: pieces may be any that put together are the file.
func TestBakeParts(t *testing.T) {
	r := recipe.Recipe{file("a", "x", "yz", "x"), dir("b"), file("b/c"), file("b/d", "x"), file("e", "yz", "x")}
	bakes(t, r, pieces("x", "yz"), text("a=xyzx b/ b/c= b/d=x e=yzx"), api.OK)
	bakes(t, r, pieces("yz", "q", "x"), text("a=xyzx b/ b/c= b/d=x e=yzx"), api.OK)
	bakes(t, nil, nil, tree.Tree{}, api.OK)
	bakes(t, nil, pieces("x"), tree.Tree{}, api.OK)
	bakes(t, recipe.Recipe{dir("a"), file("a/b")}, nil, text("a/ a/b="), api.OK)
}

// P12.1: EARG of what is not Good, ahead of all.
func TestBakeNotGood(t *testing.T) {
	for _, r := range []recipe.Recipe{
		{{}}, {file("b", "x"), file("a", "x")}, {file("a/b", "x")}, {file(".work", "x")}, {dir(".work"), file(".work/t1", "x")}, {file("A", "x")},
		{{Path: "a", Dir: true, Names: sums("x")}}, {{Path: "a", Dir: true, Whole: sum.Sum{1}}},
		{file("a", "not there"), file("a", "x")}, {{Path: "a", Names: sums("x")}, {Path: "B"}},
		{file("a", slices.Repeat([]string{"x"}, 2049)...)}, recipe.Recipe(slices.Repeat(recipe.Recipe{file("a")}, 41)),
	} {
		bakes(t, r, pieces("x"), tree.Tree{}, api.EARG)
		bakes(t, r, nil, tree.Tree{}, api.EARG)
	}
}

// P12.1: file by file: Join's error, name by name; then ESUM, if its sum is
// not Whole.
func TestBakeErrors(t *testing.T) {
	lie := chunk.Piece{Sum: piece("y").Sum, B: []byte("x")}
	other := recipe.Line{Path: "b", Whole: sum.Sum{1}, Names: sums("x")}
	other2 := other
	other2.Path = "e"
	for _, c := range []struct {
		r    recipe.Recipe
		have []chunk.Piece
		want api.Errno
	}{
		{recipe.Recipe{file("a", "x")}, nil, api.ENONE}, {recipe.Recipe{file("a", "x", "y")}, pieces("x"), api.ENONE}, {recipe.Recipe{file("a", "y")}, []chunk.Piece{lie}, api.ESUM},
		{recipe.Recipe{file("a", "z", "y")}, []chunk.Piece{lie}, api.ENONE}, {recipe.Recipe{file("a", "y", "z")}, []chunk.Piece{lie}, api.ESUM}, {recipe.Recipe{file("a", "y")}, []chunk.Piece{lie, piece("y")}, api.ESUM}, {recipe.Recipe{file("a", "y")}, []chunk.Piece{piece("y"), lie}, api.OK},
		{recipe.Recipe{other}, pieces("x"), api.ESUM}, {recipe.Recipe{other}, nil, api.ENONE},
		{recipe.Recipe{{Path: "a"}}, nil, api.ESUM}, {recipe.Recipe{{Path: "a", Whole: sum.Of([]byte("a"))}}, pieces("a"), api.ESUM},
		// The first file tells.
		{recipe.Recipe{other, file("c", "q")}, pieces("x"), api.ESUM}, {recipe.Recipe{file("a", "q"), other}, pieces("x"), api.ENONE}, {recipe.Recipe{dir("a"), file("a/b", "q"), other}, pieces("x"), api.ENONE}, {recipe.Recipe{file("a", "x"), other, dir("c"), file("d", "q")}, pieces("x"), api.ESUM},
		{recipe.Recipe{file("a", "x"), dir("b"), file("c", "x"), other2}, pieces("x"), api.ESUM},
		{recipe.Recipe{file("a", "x"), file("b", "x"), file("c", "q")}, pieces("x"), api.ENONE},
	} {
		got, err := recipe.Bake(c.r, c.have)
		if err != c.want || err != api.OK && len(got.L) != 0 || err == api.OK && len(got.L) != len(c.r) {
			t.Errorf("Bake of %s: %v, want %v", show(c.r), err, c.want)
		}
	}
	// Bytes in another order are other bytes.
	turned := file("a", "x", "yz")
	slices.Reverse(turned.Names)
	bakes(t, recipe.Recipe{turned}, pieces("x", "yz"), tree.Tree{}, api.ESUM)
	for i := range 256 {
		l := file("a", "x", "yz")
		l.Whole[i/8] ^= 1 << (i % 8)
		bakes(t, recipe.Recipe{l}, pieces("x", "yz"), tree.Tree{}, api.ESUM)
	}
}

// P12.1: then EFULL, if the tree is not Good: a file above MaxFile, all above
// MaxBytes, by one.
func TestBakeFull(t *testing.T) {
	big, one := strings.Repeat("q", 128), "x"
	full := slices.Repeat([]string{big}, 16)
	have := pieces(big, one)
	ok := func(r recipe.Recipe, n int) {
		t.Helper()
		got, err := recipe.Bake(r, have)
		if err != api.OK || len(got.L) != len(r) || tree.Bytes(got) != n {
			t.Errorf("Bake of %s: %d, %v", show(r), tree.Bytes(got), err)
		}
	}
	over := append(full[:16:16], one)
	ok(recipe.Recipe{file("a", full...)}, 2048)
	ok(recipe.Recipe{file("a", slices.Repeat([]string{one}, 2048)...)}, 2048)
	bakes(t, recipe.Recipe{file("a", over...)}, have, tree.Tree{}, api.EFULL)
	bakes(t, recipe.Recipe{file("a", slices.Repeat([]string{big}, 2048)...)}, have, tree.Tree{}, api.EFULL)
	var r recipe.Recipe
	for i := range 8 {
		r = append(r, file(string(rune('a'+i)), full...))
	}
	ok(r, 16384)
	ok(append(r[:8:8], file("i"), dir("j")), 16384)
	bakes(t, append(r[:8:8], file("i", one)), have, tree.Tree{}, api.EFULL)
	ok(append(r[:7:7], file("h", full[1:]...), file("i", slices.Repeat([]string{one}, 128)...)), 16384)
	bakes(t, append(r[:7:7], file("h", full[1:]...), file("i", slices.Repeat([]string{one}, 129)...)), have, tree.Tree{}, api.EFULL)
	// Only behind all files.
	bakes(t, recipe.Recipe{file("a", over...), file("b", "not there")}, have, tree.Tree{}, api.ENONE)
	bakes(t, recipe.Recipe{file("a", over...), {Path: "b", Names: sums(one)}}, have, tree.Tree{}, api.ESUM)
	bakes(t, recipe.Recipe{{Path: "a", Names: sums(over...)}}, have, tree.Tree{}, api.ESUM)
	bakes(t, recipe.Recipe{file("a", over...), file("a")}, have, tree.Tree{}, api.EARG)
}

// P12.1: forty lines, and the greatest of all that is not too long to be asked.
func TestBakeMost(t *testing.T) {
	var r recipe.Recipe
	for i := range 40 {
		r = append(r, file(string([]byte{'a' + byte(i/10), '0' + byte(i%10)}), slices.Repeat([]string{"x"}, i)...))
	}
	got, err := recipe.Bake(r, pieces("x"))
	if err != api.OK || len(got.L) != 40 || tree.Bytes(got) != 780 {
		t.Errorf("Bake of forty: %d, %v", len(got.L), err)
	}
	big := strings.Repeat("q", 128)
	for i := range r {
		r[i] = file(r[i].Path, slices.Repeat([]string{big}, 2048)...)
	}
	bakes(t, r, pieces(big), tree.Tree{}, api.EFULL)
	r[39].Whole[31] ^= 1
	bakes(t, r, pieces(big), tree.Tree{}, api.ESUM)
}
