package recipe_test

import (
	"crypto/sha256"
	"fmt"
	"slices"
	"strings"
	"testing"

	"tallyman/api"
	"tallyman/chunk"
	"tallyman/recipe"
	"tallyman/set"
	"tallyman/sum"
	"tallyman/tree"
)

// text makes a tree of what it is told: a/ is a Dir, a=bytes a file.
func text(s string) tree.Tree {
	var t tree.Tree
	for one := range strings.FieldsSeq(s) {
		p, b, isFile := strings.Cut(one, "=")
		if isFile {
			t.L = append(t.L, tree.Entry{Path: p, B: []byte(b)})
		} else {
			t.L = append(t.L, tree.Entry{Path: strings.TrimSuffix(p, "/"), Dir: true})
		}
	}
	return t
}

// dir makes the line of a Dir.
func dir(p string) recipe.Line { return recipe.Line{Path: p, Dir: true} }

// file makes the line of a file that is put together of some bytes, each of
// them a piece: its sums by the library.
func file(p string, parts ...string) recipe.Line {
	return recipe.Line{Path: p, Whole: sha256.Sum256([]byte(strings.Join(parts, ""))), Names: sums(parts...)}
}

// piece makes one that is Good of 1 to MaxChunk bytes: its sum by the library.
func piece(b string) chunk.Piece {
	return chunk.Piece{Sum: sha256.Sum256([]byte(b)), B: []byte(b)}
}

// pieces makes some.
func pieces(parts ...string) []chunk.Piece {
	var l []chunk.Piece
	for _, b := range parts {
		l = append(l, piece(b))
	}
	return l
}

// sums tells the sums of bytes, each text's own.
func sums(parts ...string) []sum.Sum {
	var l []sum.Sum
	for _, b := range parts {
		l = append(l, sha256.Sum256([]byte(b)))
	}
	return l
}

// same tells whether two are alike, line by line.
func same(a, b recipe.Recipe) bool {
	return slices.EqualFunc(a, b, func(k, l recipe.Line) bool {
		return k.Path == l.Path && k.Dir == l.Dir && k.Whole == l.Whole && slices.Equal(k.Names, l.Names)
	})
}

// show tells one in few words.
func show(r recipe.Recipe) string {
	var l []string
	for _, x := range r {
		l = append(l, fmt.Sprintf("%q %v %.4x %d", x.Path, x.Dir, x.Whole[:], len(x.Names)))
	}
	return strings.Join(l, ", ")
}

// all tells all pieces of a tree's files.
func all(t tree.Tree) []chunk.Piece {
	var l []chunk.Piece
	for _, e := range t.L {
		l = append(l, chunk.Cut(e.B)...)
	}
	return l
}

// noise makes n bytes that look like chance, and are the same each time.
func noise(n int, seed uint32) []byte {
	b := make([]byte, n)
	for i := range b {
		seed = seed*1103515245 + 12345
		b[i] = byte(seed >> 16)
	}
	return b
}

// files makes a tree of files of so many bytes.
func files(sizes ...int) tree.Tree {
	var t tree.Tree
	for i, n := range sizes {
		t.L = append(t.L, tree.Entry{Path: fmt.Sprintf("f%02d", i), B: noise(n, uint32(i))})
	}
	return t
}

// trees has some that are Good, of many kinds.
func trees() []tree.Tree {
	l := []tree.Tree{
		{}, {L: []tree.Entry{}}, text("a/"), text("a="), text("a=hello"), text("a/ a/b=hello a/c/ a/d= b=hello"),
		text("a/ a/b/ a/b/c/ a/b/c/d=deep a-b=x a.b/"), text("-= .a= 0= _/ _/_="),
		files(0, 1, 15, 16, 17, 127, 128, 129, 2047, 2048), files(2048, 2048, 2048, 2048, 2048, 2048, 2048, 2048),
		files(make([]int, 40)...), {L: []tree.Entry{{Path: "zero", B: make([]byte, 2048)}}},
		{L: []tree.Entry{{Path: strings.Repeat("a", 16), Dir: true}, {Path: strings.Repeat("a", 16) + "/" + strings.Repeat("b", 16), B: make([]byte, 300)}}},
	}
	var wide tree.Tree
	for i := range 20 {
		p := fmt.Sprintf("d%02d", i)
		wide.L = append(wide.L, tree.Entry{Path: p, Dir: true}, tree.Entry{Path: p + "/f", B: noise(40*i, 7)})
	}
	return append(l, wide)
}

// P12.1: the chapter's example.
func TestExample(t *testing.T) {
	got := recipe.Of(text("a=small"))
	if len(got) != 1 || len(got[0].Names) != 1 {
		t.Errorf("Of one small file: %s", show(got))
	}
}

// P12.1: a line for each entry, in order: a Dir's path alone; a file's Whole,
// and its Names.
func TestOf(t *testing.T) {
	for _, c := range []struct {
		tree string
		want recipe.Recipe
	}{
		{"", nil}, {"a/", recipe.Recipe{dir("a")}}, {"a=", recipe.Recipe{file("a")}}, {"a=hello", recipe.Recipe{file("a", "hello")}},
		{"a/ a/b=x a/c/ a-b=x b=", recipe.Recipe{dir("a"), file("a/b", "x"), dir("a/c"), file("a-b", "x"), file("b")}},
		{"a/ a/b/ a/b/c/ a/b/c/d=y", recipe.Recipe{dir("a"), dir("a/b"), dir("a/b/c"), file("a/b/c/d", "y")}},
	} {
		if got := recipe.Of(text(c.tree)); !same(got, c.want) {
			t.Errorf("Of %q: %s", c.tree, show(got))
		}
	}
	const z = "\x00"
	got := recipe.Of(tree.Tree{L: []tree.Entry{{Path: "z", B: make([]byte, 300)}}})
	want := recipe.Recipe{file("z", strings.Repeat(z, 128), strings.Repeat(z, 128), strings.Repeat(z, 44))}
	if !same(got, want) {
		t.Errorf("Of 300 noughts: %s", show(got))
	}
}

// P12.1: of what is there without what is in Work.
func TestOfClean(t *testing.T) {
	for _, c := range []struct{ tree, want string }{
		{".work/", ""}, {".work=x", ""}, {".work/ .work/a=x .work/b/ .work/b/c=y", ""}, {".work/ .work/t1=x a=y", "a=y"},
		{".a= .work/ .work/t1=x .work-a= .worka/ a/ a/.work=z", ".a= .work-a= .worka/ a/ a/.work=z"},
	} {
		got, want := recipe.Of(text(c.tree)), recipe.Of(text(c.want))
		if !same(got, want) || len(got) != len(text(c.want).L) {
			t.Errorf("Of %q: %s", c.tree, show(got))
		}
	}
}

// P12.1: none of a tree that is not Good.
func TestOfNotGood(t *testing.T) {
	for _, one := range []tree.Tree{
		text("b= a="), text("a= a="), text("a/b=x"), text("a= a/b=x"), text("A=x"), text("a/ b= a/c="), text(".work/t1="),
		{L: []tree.Entry{{Path: "a", Dir: true, B: []byte("x")}}}, {L: []tree.Entry{{}}},
		files(2049), files(2048, 2048, 2048, 2048, 2048, 2048, 2048, 2048, 1), files(make([]int, 41)...),
		// Not Good by what is in Work alone.
		text(".work= .work/a= b="), {L: []tree.Entry{{Path: ".work", Dir: true, B: []byte("x")}, {Path: "a"}}},
		{L: append([]tree.Entry{{Path: ".work", Dir: true}}, files(make([]int, 40)...).L...)},
	} {
		if got := recipe.Of(one); len(got) != 0 {
			t.Errorf("Of what is not Good: %s", show(got))
		}
	}
}

// P12.1: what Of tells is Good, and is what chunk and the library tell of each
// file.
func TestOfTrees(t *testing.T) {
	for _, one := range trees() {
		got := recipe.Of(one)
		if !recipe.Good(got) || len(got) != len(one.L) {
			t.Fatalf("Of %d entries: %s", len(one.L), show(got))
		}
		for i, e := range one.L {
			want := dir(e.Path)
			if !e.Dir {
				want = recipe.Line{Path: e.Path, Whole: sha256.Sum256(e.B), Names: chunk.Names(e.B)}
			}
			if !same(got[i:i+1], recipe.Recipe{want}) {
				t.Errorf("Of: %s, want %s", show(got[i:i+1]), show(recipe.Recipe{want}))
			}
		}
	}
}

// P12.1: all Names, each once, rising.
func TestNeeds(t *testing.T) {
	for _, c := range []struct {
		r    recipe.Recipe
		want []string
	}{
		{nil, nil}, {recipe.Recipe{}, nil}, {recipe.Recipe{dir("a")}, nil}, {recipe.Recipe{file("a")}, nil},
		{recipe.Recipe{file("a", "x")}, []string{"x"}}, {recipe.Recipe{file("a", "x", "y", "x")}, []string{"x", "y"}},
		{recipe.Recipe{file("a", "x"), dir("b"), file("b/c", "y", "z"), file("d", "z", "x")}, []string{"x", "y", "z"}},
		// Of what is not Good too: nothing says otherwise.
		{recipe.Recipe{file("b", "x"), file("a", "y")}, []string{"x", "y"}}, {recipe.Recipe{file("A", "x"), {}}, []string{"x"}},
		{recipe.Recipe{{Path: "a", Dir: true, Names: sums("x", "w")}}, []string{"w", "x"}},
	} {
		if got := recipe.Needs(c.r); !slices.Equal(got, set.Of(sums(c.want...)...)) {
			t.Errorf("Needs of %s: %d", show(c.r), len(got))
		}
	}
	for _, one := range trees() {
		var l [][]byte
		for _, e := range one.L {
			l = append(l, e.B)
		}
		if got := recipe.Needs(recipe.Of(one)); !slices.Equal(got, chunk.All(l...)) {
			t.Errorf("Needs of %d entries: %d", len(one.L), len(got))
		}
	}
}

// P12.1: all Names, be they more than a set that is Good has.
func TestNeedsMany(t *testing.T) {
	var parts []string
	for i := range 2048 {
		parts = append(parts, fmt.Sprint(i))
	}
	for _, n := range []int{511, 512, 513, 2048} {
		r := recipe.Recipe{file("a", parts[:n/2]...), file("b", parts[:n]...)}
		got := recipe.Needs(r)
		if !recipe.Good(r) || !slices.Equal(got, set.Of(sums(parts[:n]...)...)) || len(got) != n {
			t.Errorf("Needs of %d: %d", n, len(got))
		}
	}
}

// P12.1: Tell is sum's Of Put; of what is not Good, of nothing.
func TestTell(t *testing.T) {
	for _, one := range trees() {
		r := recipe.Of(one)
		if got := recipe.Tell(r); got != sha256.Sum256(recipe.Put(r)) {
			t.Errorf("Tell of %s: %s", show(r), got.Text())
		}
	}
	for _, r := range []recipe.Recipe{nil, {}, {file("b"), file("a")}, {{}}, {file("a/b", "x")}} {
		if got := recipe.Tell(r); got != sha256.Sum256(nil) {
			t.Errorf("Tell of %s: %s", show(r), got.Text())
		}
	}
}

// P12.1: recipes of unlike trees are told unlike, of like ones alike.
func TestTellUnlike(t *testing.T) {
	seen := map[sum.Sum]string{}
	for _, s := range []string{"", "a/", "a=", "a=x", "a=y", "b=x", "a/ b=x", "a/ a/b=x", "a=x b=", "a= b=x", "a=xy", "a/ a/b/", "ab/"} {
		got := recipe.Tell(recipe.Of(text(s)))
		if was, there := seen[got]; there {
			t.Errorf("Tell of %q is as of %q", s, was)
		}
		seen[got] = s
		if recipe.Tell(recipe.Of(text(".work/ .work/t1=x "+s))) != got {
			t.Errorf("Tell of %q with Work is another", s)
		}
	}
}

// The limits that the tests name by their numbers.
func TestLimits(t *testing.T) {
	if got := [...]int{api.MaxPaths, api.MaxFile, api.MaxBytes, api.MaxChunk, api.MaxSet}; got != [...]int{40, 2048, 16384, 128, 512} {
		t.Fatal(got)
	}
}
