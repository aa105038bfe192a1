package recipe_test

import (
	"bytes"
	"slices"
	"testing"

	"tallyman/api"
	"tallyman/chunk"
	"tallyman/recipe"
	"tallyman/sum"
	"tallyman/tree"
)

// roomy gives a list spare room with something in it, and tells the list and
// the whole of it.
func roomy[T any](l []T, more ...T) (part, whole []T) {
	whole = slices.Concat(l, more)
	return whole[:len(l)], whole
}

// spoil writes over a list, spare room too.
func spoil[T any](l []T, x T) {
	l = l[:cap(l)]
	for i := range l {
		l[i] = x
	}
}

// clone makes a recipe anew, Names and all.
func clone(r recipe.Recipe) recipe.Recipe {
	r = slices.Clone(r)
	for i := range r {
		r[i].Names = slices.Clone(r[i].Names)
	}
	return r
}

// spoilRecipe writes over the Names of a recipe, then over its lines, spare
// room too.
func spoilRecipe(r recipe.Recipe) {
	for _, l := range r {
		spoil(l.Names, sum.Sum{9})
	}
	spoil(r, recipe.Line{Path: "spoilt"})
}

// R3, R4: the bytes of Get are not changed, spare room included, and not kept;
// what it answers is new memory.
func TestGetNew(t *testing.T) {
	for _, one := range trees() {
		want := recipe.Of(one)
		b, whole := roomy(recipe.Put(want), []byte("spare room")...)
		was := slices.Clone(whole)
		got, err := recipe.Get(b)
		if err != api.OK || !bytes.Equal(whole, was) {
			t.Fatalf("Get of %s: %v, or its bytes are changed", show(want), err)
		}
		spoil(whole, 255)
		if !same(got, want) {
			t.Fatalf("Get of %s keeps its bytes", show(want))
		}
		copy(whole, was)
		spoilRecipe(got)
		if !bytes.Equal(whole, was) {
			t.Fatalf("Get of %s answers its bytes", show(want))
		}
		gets(t, b, want, api.OK)
		recipe.Get(b[:max(0, len(b)-1)])
		recipe.Get(whole)
		if !bytes.Equal(whole, was) {
			t.Fatalf("a Get of %s that is refused changes its bytes", show(want))
		}
	}
}

// R3, R4: no call changes a recipe that is handed in, spare room included; and
// what Put and Needs answer is new memory.
func TestRecipeLeaves(t *testing.T) {
	for _, some := range []recipe.Recipe{nil, recipe.Of(files(300, 2048, 0)), {dir("a"), file("a/b", "x", "y", "x"), file("c")}, {file("b", "y", "x"), file("a", "z")}, {{Path: "a", Dir: true, Names: sums("x")}}} {
		r, whole := roomy(some, file("spare", "room"), dir("z"))
		var wholes [][]sum.Sum
		for i := range r {
			var names []sum.Sum
			r[i].Names, names = roomy(r[i].Names, sum.Sum{1}, sum.Sum{2})
			wholes = append(wholes, names)
		}
		wasWhole, wasNames := clone(whole), []byte(show(r))
		var was [][]sum.Sum
		for _, l := range wholes {
			was = append(was, slices.Clone(l))
		}
		left := func() bool {
			return same(whole, wasWhole) && show(r) == string(wasNames) && slices.EqualFunc(wholes, was, slices.Equal[[]sum.Sum])
		}
		for range 2 {
			recipe.Good(r)
			recipe.Tell(r)
			recipe.Bake(r, pieces("x"))
			b, needs := recipe.Put(r), recipe.Needs(r)
			if !left() {
				t.Fatalf("%s is changed", wasNames)
			}
			wantB, wantNeeds := bytes.Clone(b), slices.Clone(needs)
			spoil(b, 255)
			spoil(needs, sum.Sum{9})
			if !left() {
				t.Fatalf("%s is answered", wasNames)
			}
			if !bytes.Equal(recipe.Put(r), wantB) || !slices.Equal(recipe.Needs(r), wantNeeds) {
				t.Fatalf("of %s: another answer again", wasNames)
			}
		}
		b, needs := recipe.Put(r), recipe.Needs(r)
		wantB, wantNeeds := bytes.Clone(b), slices.Clone(needs)
		for _, l := range wholes {
			spoil(l, sum.Sum{9})
		}
		spoil(whole, recipe.Line{})
		if !bytes.Equal(b, wantB) || !slices.Equal(needs, wantNeeds) {
			t.Fatalf("%s is kept", wasNames)
		}
	}
}

// R3, R4: Of leaves a tree as it is, spare room included; its bytes are not
// answered, nor its list.
func TestOfNew(t *testing.T) {
	for _, some := range append(trees(), text(".work/ .work/t1=x a=y"), text("b= a=")) {
		l, whole := roomy(some.L, tree.Entry{Path: "spare"}, tree.Entry{Path: "room"})
		var wholes, was [][]byte
		for i := range l {
			var b []byte
			l[i].B, b = roomy(l[i].B, 1, 2, 3)
			wholes, was = append(wholes, b), append(was, bytes.Clone(b))
		}
		wasWhole := slices.Clone(whole)
		left := func() bool {
			return slices.EqualFunc(wholes, was, bytes.Equal) && slices.EqualFunc(whole, wasWhole, func(a, b tree.Entry) bool { return a.Path == b.Path && a.Dir == b.Dir && bytes.Equal(a.B, b.B) })
		}
		got := recipe.Of(tree.Tree{L: l})
		want := clone(got)
		if !left() {
			t.Fatalf("Of changes the tree of %s", show(want))
		}
		spoilRecipe(got)
		if !left() || !same(recipe.Of(tree.Tree{L: l}), want) {
			t.Fatalf("Of answers the tree of %s", show(want))
		}
		got = recipe.Of(tree.Tree{L: l})
		for _, b := range wholes {
			spoil(b, 255)
		}
		if !same(got, want) {
			t.Fatalf("Of keeps the tree of %s", show(want))
		}
	}
}

// R4: no two lists of one answer share any memory, spare room too.
func TestNamesAlone(t *testing.T) {
	r := recipe.Recipe{file("a", "x", "y"), dir("b"), file("b/c", "x"), file("b/d"), file("e", "x", "y", "z")}
	one := text("a=xy b/ b/c=x b/d= e=xyz")
	for name, tell := range map[string]func() recipe.Recipe{
		"Of":  func() recipe.Recipe { return recipe.Of(one) },
		"Get": func() recipe.Recipe { got, _ := recipe.Get(recipe.Put(r)); return got },
	} {
		for i := range r {
			got := tell()
			want := clone(got)
			spoil(got[i].Names, sum.Sum{9})
			_ = append(got[i].Names, sum.Sum{9})
			for j := range got {
				if j != i && !slices.Equal(got[j].Names, want[j].Names) {
					t.Errorf("%s: Names of line %d share with %d", name, i, j)
				}
			}
		}
	}
}

// R3, R4: Bake leaves the pieces that are handed in as they are, spare room
// included; a file's bytes are new memory, and no other file's.
func TestBakeNew(t *testing.T) {
	r := recipe.Recipe{file("a", "x"), file("b", "x"), file("c", "yy", "x"), file("d"), file("e", "yy")}
	want := text("a=x b=x c=yyx d= e=yy")
	have, whole := roomy(pieces("x", "yy"), piece("spare"), piece("room"))
	var wholes [][]byte
	for i := range have {
		var b []byte
		have[i].B, b = roomy(have[i].B, 1, 2, 3)
		wholes = append(wholes, b)
	}
	wasWhole := slices.Clone(whole)
	left := func() bool {
		return string(wholes[0]) == "x\x01\x02\x03" && string(wholes[1]) == "yy\x01\x02\x03" && slices.EqualFunc(whole, wasWhole, func(p, q chunk.Piece) bool { return p.Sum == q.Sum && bytes.Equal(p.B, q.B) })
	}
	for i := range r {
		got, err := recipe.Bake(r, have)
		if err != api.OK || !tree.Same(got, want) || !left() {
			t.Fatalf("Bake: %v, or it changes what is handed in", err)
		}
		spoil(got.L[i].B, 255)
		_ = append(got.L[i].B, 255)
		for j, e := range got.L {
			if j != i && !bytes.Equal(e.B, want.L[j].B) {
				t.Errorf("Bake: file %d shares with %d", i, j)
			}
		}
		if !left() {
			t.Fatal("Bake answers what is handed in")
		}
	}
	got, _ := recipe.Bake(r, have)
	for _, refused := range []recipe.Recipe{append(r[:4:4], file("e", "q")), append(r[:4:4], recipe.Line{Path: "e"}), append(r[:4:4], r[0])} {
		if _, err := recipe.Bake(refused, have); err == api.OK || !left() {
			t.Fatalf("Bake that is refused: %v, or it changes what is handed in", err)
		}
	}
	for _, b := range wholes {
		spoil(b, 255)
	}
	spoil(whole, chunk.Piece{})
	if !tree.Same(got, want) {
		t.Error("Bake keeps what is handed in")
	}
}

// R2, R4: with an error there is nothing else; nil and an empty list are one.
func TestNothingBeside(t *testing.T) {
	for _, b := range []string{"\x01", "\x01a\x02", "\x01a\x01\x01", "\x01b\x01\x01a\x01", "\x80\x00"} {
		if got, err := recipe.Get([]byte(b)); err == api.OK || len(got) != 0 {
			t.Errorf("Get of %x: %s, %v", b, show(got), err)
		}
	}
	for _, r := range []recipe.Recipe{{file("a", "x"), file("b", "q")}, {dir("a"), {Path: "b"}}, {file("b"), file("a")}} {
		if got, err := recipe.Bake(r, pieces("x")); err == api.OK || len(got.L) != 0 {
			t.Errorf("Bake of %s: %d entries, %v", show(r), len(got.L), err)
		}
	}
	none := recipe.Recipe{{Path: "a", Dir: true, Names: []sum.Sum{}}, {Path: "b", Whole: sum.Of(nil), Names: []sum.Sum{}}}
	if !bytes.Equal(recipe.Put(none), recipe.Put(recipe.Recipe{dir("a"), file("b")})) {
		t.Errorf("Put of empty Names: %x", recipe.Put(none))
	}
	bakes(t, none, []chunk.Piece{}, text("a/ b="), api.OK)
}
