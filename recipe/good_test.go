package recipe_test

import (
	"fmt"
	"slices"
	"strings"
	"testing"

	"tallyman/recipe"
	"tallyman/sum"
)

// P12.1: as a tree: paths Good, by path's Cmp, each once, each Up a Dir that
// is there, none Inside.
func TestGood(t *testing.T) {
	name := strings.Repeat("n", 16)
	for _, c := range []struct {
		r    recipe.Recipe
		want bool
	}{
		{nil, true}, {recipe.Recipe{}, true}, {recipe.Recipe{dir("a")}, true}, {recipe.Recipe{file("a")}, true}, {recipe.Recipe{file("a", "x", "y")}, true},
		{recipe.Recipe{dir("a"), file("a/b", "x"), dir("a/c"), file("a-b", "x"), file("b")}, true},
		{recipe.Recipe{dir("a"), dir("a/b"), dir("a/b/c"), file("a/b/c/d")}, true},
		// Paths that may not be.
		{recipe.Recipe{{}}, false}, {recipe.Recipe{dir("")}, false}, {recipe.Recipe{file("A")}, false}, {recipe.Recipe{dir("..")}, false}, {recipe.Recipe{file("/a")}, false}, {recipe.Recipe{dir("a"), file("a/")}, false}, {recipe.Recipe{file("a\x00")}, false},
		{recipe.Recipe{file(name)}, true}, {recipe.Recipe{file(name + "n")}, false}, {recipe.Recipe{dir("a"), dir("a/b"), dir("a/b/c"), dir("a/b/c/d"), dir("a/b/c/d/e")}, false},
		// Out of order, or twice.
		{recipe.Recipe{file("b"), file("a")}, false}, {recipe.Recipe{file("a"), file("a")}, false}, {recipe.Recipe{dir("a"), dir("a")}, false}, {recipe.Recipe{dir("a"), file("a")}, false}, {recipe.Recipe{file("a-b"), dir("a"), file("a/b")}, false}, {recipe.Recipe{dir("a"), file("b"), file("a/c")}, false}, {recipe.Recipe{file("a/b"), dir("a")}, false},
		{recipe.Recipe{dir("a"), file("a-b"), file("a/b")}, false},
		// Not in a Dir that is there.
		{recipe.Recipe{file("a/b")}, false}, {recipe.Recipe{dir("b"), file("b/c/d")}, false}, {recipe.Recipe{file("a"), file("a/b")}, false}, {recipe.Recipe{dir("a"), file("ab/c")}, false},
		// Inside Work.
		{recipe.Recipe{dir(".work")}, false}, {recipe.Recipe{file(".work")}, false}, {recipe.Recipe{dir(".work"), file(".work/t1", "x")}, false}, {recipe.Recipe{dir(".work"), file("a")}, false}, {recipe.Recipe{file(".a"), file(".work", "x"), file("b")}, false},
		{recipe.Recipe{dir(".worka"), dir("a"), dir("a/.work"), file("a/.work/t1")}, true}, {recipe.Recipe{file(".wor"), file(".work-")}, true},
	} {
		if got := recipe.Good(c.r); got != c.want {
			t.Errorf("Good of %s: %v", show(c.r), got)
		}
	}
}

// P12.1: a Dir has no Names, and its Whole is all noughts; a file's Whole may
// be any.
func TestGoodKinds(t *testing.T) {
	for i := range 256 {
		var whole sum.Sum
		whole[i/8] = 1 << (i % 8)
		if recipe.Good(recipe.Recipe{{Path: "a", Dir: true, Whole: whole}}) {
			t.Errorf("Good of a Dir whose Whole has bit %d: true", i)
		}
		if !recipe.Good(recipe.Recipe{{Path: "a", Whole: whole}}) {
			t.Errorf("Good of a file whose Whole has bit %d: false", i)
		}
	}
	for _, c := range []struct {
		l    recipe.Line
		want bool
	}{
		{recipe.Line{Path: "a", Dir: true, Names: []sum.Sum{}}, true}, {recipe.Line{Path: "a", Dir: true, Names: make([]sum.Sum, 1)}, false}, {recipe.Line{Path: "a", Dir: true, Names: sums("x", "y")}, false},
		{recipe.Line{Path: "a"}, true}, {recipe.Line{Path: "a", Names: []sum.Sum{}}, true}, {recipe.Line{Path: "a", Names: make([]sum.Sum, 3)}, true}, {recipe.Line{Path: "a", Whole: sum.Sum{1}, Names: sums("x", "x")}, true},
	} {
		// At each place of three.
		for i := range 3 {
			r := recipe.Recipe{dir("0"), file("1", "x"), dir("b")}
			c.l.Path = r[i].Path
			r[i] = c.l
			if got := recipe.Good(r); got != c.want {
				t.Errorf("Good of %s: %v", show(r), got)
			}
		}
	}
}

// P12.1: at most MaxFile Names of a file, MaxPaths lines, by one.
func TestGoodLimits(t *testing.T) {
	for _, n := range []int{0, 1, 2047, 2048, 2049, 2050, 4096, 1 << 17} {
		r := recipe.Recipe{file("a", "x"), {Path: "b", Names: make([]sum.Sum, n)}, file("c")}
		if got := recipe.Good(r); got != (n <= 2048) {
			t.Errorf("Good of %d Names: %v", n, got)
		}
	}
	var some, full recipe.Recipe
	for i := range 99 {
		some = append(some, file(fmt.Sprintf("f%02d", i), "x"))
		full = append(full, recipe.Line{Path: fmt.Sprintf("f%02d", i), Names: make([]sum.Sum, 2048)})
	}
	for _, n := range []int{1, 38, 39, 40, 41, 42, 80, 99} {
		if got := recipe.Good(some[:n]); got != (n <= 40) {
			t.Errorf("Good of %d lines: %v", n, got)
		}
		if got := recipe.Good(full[:n]); got != (n <= 40) {
			t.Errorf("Good of %d full lines: %v", n, got)
		}
		// One in Work does not make room for another one.
		if recipe.Good(slices.Insert(slices.Clone(some[:n]), 0, dir(".work"))) {
			t.Errorf("Good of %d lines and Work: true", n)
		}
	}
}

// R1: paths and lists of any length are told, too.
func TestGoodLong(t *testing.T) {
	for _, p := range []string{strings.Repeat("a", 1<<20), strings.Repeat("/", 1<<20), strings.Repeat("a/", 1<<20), ".work/" + strings.Repeat("a/", 1<<20), strings.Repeat("\xff", 1<<20)} {
		if recipe.Good(recipe.Recipe{dir(p)}) || recipe.Good(recipe.Recipe{file(p)}) {
			t.Errorf("Good of a path of %d bytes: true", len(p))
		}
	}
	if recipe.Good(make(recipe.Recipe, 1<<20)) {
		t.Error("Good of 2^20 lines: true")
	}
}
