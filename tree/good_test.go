package tree_test

import (
	"fmt"
	"slices"
	"strings"
	"testing"

	"tallyman/api"
	"tallyman/path"
	"tallyman/tree"
)

// of makes a tree of a text, word by word, in their order: a/b/ is a Dir,
// a/b=xyz is a file with xyz in it.
func of(text string) tree.Tree {
	var t tree.Tree
	for _, word := range strings.Fields(text) {
		p, b, file := strings.Cut(word, "=")
		if file {
			t.L = append(t.L, tree.Entry{Path: p, B: []byte(b)})
		} else {
			t.L = append(t.L, tree.Entry{Path: strings.TrimSuffix(p, "/"), Dir: true})
		}
	}
	return t
}

// tell makes a text of a tree, of's other way.
func tell(t tree.Tree) string {
	var l []string
	for _, e := range t.L {
		if e.Dir {
			l = append(l, e.Path+"/"+string(e.B))
		} else {
			l = append(l, e.Path+"="+string(e.B))
		}
	}
	return strings.Join(l, " ")
}

// many makes files f00, f01 .. of so many bytes each.
func many(n, size int) tree.Tree {
	var t tree.Tree
	for i := range n {
		t.L = append(t.L, tree.Entry{Path: fmt.Sprintf("f%02d", i), B: fill(size)})
	}
	return t
}

// fill makes n bytes.
func fill(n int) []byte { return []byte(strings.Repeat("x", n)) }

// dirs makes n directories d00, d01 ..
func dirs(n int) tree.Tree {
	var t tree.Tree
	for i := range n {
		t.L = append(t.L, tree.Entry{Path: fmt.Sprintf("d%02d", i), Dir: true})
	}
	return t
}

// join puts the entries of some trees behind each other.
func join(some ...tree.Tree) tree.Tree {
	var t tree.Tree
	for _, one := range some {
		t.L = append(t.L, one.L...)
	}
	return t
}

// goodTrees are trees that may be.
func goodTrees() []tree.Tree {
	l := []tree.Tree{{}, {L: []tree.Entry{}}}
	for _, text := range []string{
		"a/", "a=", "a=hello", "a/ b/", "a= b=", "a/ a/b/", "a/ a/b=x", "a/ a/b/ a/b/c/ a/b/c/d/", "a/ a/b/ a/b/c/ a/b/c/d=x",
		"a/ a/b=1 a-b=2", "a/ a/b/ a/b/c=x a/b-c=y a/b.c=z a/b0= a-b=", "a/ a/z=1 a-/ a-/a= a.= a0= aa/ aa/a=2 b=3",
		".work/", ".work=", ".work/ .work/a=x a=y", ".work/ .work/a/ .work/a/b/ .work/a/b/c=x", "-= ...= _=",
		"a/ a/.work/ a/.work/b=", "abcdefghijklmnop/ abcdefghijklmnop/abcdefghijklmnop=",
	} {
		l = append(l, of(text))
	}
	return append(l,
		tree.Tree{L: []tree.Entry{{Path: "a", Dir: true, B: []byte{}}, {Path: "a/b", B: nil}, {Path: "c", B: []byte{}}}},
		many(1, api.MaxFile), many(8, api.MaxFile), many(api.MaxPaths, 0), dirs(api.MaxPaths), many(api.MaxPaths, 409), join(of("a=y"), many(32, 511), of("g=123456789012345678901234567890")))
}

// badTrees are trees that may not be.
func badTrees() []tree.Tree {
	var l []tree.Tree
	for _, text := range []string{
		// Each once, by Cmp.
		"a= a=", "a/ a/", "a/ a=", "a= a/", "b= a=", "a/ c= b=", "a/b= a/", "a/ a-b= a/b=", "a/ a/b/ a/b-c= a/b/c=", "a/ b/ a/c=", "a= b= a=",
		// What it is in.
		"a/b=", "a/b/", "a= a/b=", "a= a/b/", "a/ a/b/c=", "a/ a/b= a/b/c=", "a/ b/c=", "a/ ab/c=", "aa/ ab/c=", "a/ a/c/ a/d/e=", "a/b/ a/b/c=", "b/ b/c/d/e=", ".work/a=", ".work= .work/a=",
		// Paths that may not be.
		"=", ".=", "..=", "../", "A=", "A/", "a/ a/B=", "a/ a/../", "a//", "//", "a/ a//b=", "a/ a/b/ a/b/c/ a/b/c/d/ a/b/c/d/e=", "abcdefghijklmnopq=", "é=", "a+b=",
	} {
		l = append(l, of(text))
	}
	for _, e := range []tree.Entry{{}, {Dir: true}, {Path: "a", Dir: true, B: []byte{0}}, {Path: "a b"}, {Path: "a\x00", Dir: true}, {Path: "/", Dir: true}, {Path: "a", B: fill(2049)}, {Path: "a", Dir: true, B: fill(2049)}} {
		l = append(l, tree.Tree{L: []tree.Entry{e}}, join(of("0="), tree.Tree{L: []tree.Entry{e}}), join(tree.Tree{L: []tree.Entry{e}}, of("z=")))
	}
	return append(l, many(api.MaxPaths+1, 0), dirs(api.MaxPaths+1), many(100, 0), many(9, api.MaxFile), join(many(8, api.MaxFile), of("g=y")), many(api.MaxPaths, 410), join(many(39, 0), of("g/ g/a=")),
		tree.Tree{L: make([]tree.Entry, 1<<20)}, tree.Tree{L: []tree.Entry{{Path: strings.Repeat("a/", 1<<20) + "a"}}})
}

// P8.1: what may be, the edges too.
func TestGood(t *testing.T) {
	for _, one := range goodTrees() {
		if !tree.Good(one) {
			t.Errorf("Good of %.99s: false", tell(one))
		}
	}
	for _, one := range badTrees() {
		if tree.Good(one) {
			t.Errorf("Good of %.99s: true", tell(one))
		}
	}
}

// P8.1: how many, and how long: the limits are api's, by one.
func TestGoodLimits(t *testing.T) {
	for n := range api.MaxPaths + 9 {
		if tree.Good(many(n, 1)) != (n <= api.MaxPaths) || tree.Good(dirs(n)) != (n <= api.MaxPaths) {
			t.Errorf("Good of %d entries", n)
		}
	}
	for n := api.MaxFile - 2; n < api.MaxFile+3; n++ {
		if tree.Good(many(1, n)) != (n <= api.MaxFile) {
			t.Errorf("Good of a file of %d bytes", n)
		}
	}
	for n := range 9 {
		if one := join(many(7, api.MaxFile), of("g/"), tree.Tree{L: []tree.Entry{{Path: "g/a", B: fill(2044)}, {Path: "h", B: fill(n)}}}); tree.Good(one) != (n <= 4) {
			t.Errorf("Good of %d bytes in all", api.MaxBytes-4+n)
		}
	}
}

// wantGood tells Good's answer by the document's words, sentence by sentence.
func wantGood(t tree.Tree) bool {
	all, kinds := 0, map[string]bool{}
	for _, e := range t.L {
		if _, twice := kinds[e.Path]; twice || !path.Good(e.Path) || e.Dir && len(e.B) > 0 || len(e.B) > 2048 {
			return false
		}
		kinds[e.Path] = e.Dir
		all += len(e.B)
	}
	for p := range kinds {
		if up, _ := path.Up(p); up != "" && !kinds[up] {
			return false
		}
	}
	return len(t.L) <= 40 && all <= 16384 && slices.IsSortedFunc(t.L, func(a, b tree.Entry) int { return path.Cmp(a.Path, b.Path) })
}

// lists makes all lists of at most n of some entries, in any order, the same
// one twice too.
func lists(some []tree.Entry, n int) []tree.Tree {
	l := []tree.Tree{{}}
	from := 0
	for range n {
		to := len(l)
		for _, t := range l[from:to] {
			for _, e := range some {
				l = append(l, tree.Tree{L: append(slices.Clone(t.L), e)})
			}
		}
		from = to
	}
	return l
}

// P8.1: all lists of few entries, told by the document's words.
func TestGoodAll(t *testing.T) {
	some := of("a/ a= a/b/ a/b= a/b/c= a-b= b/ b=x b/c= A=").L
	some = append(some, tree.Entry{Path: "b", Dir: true, B: []byte{1}})
	good := 0
	for _, one := range lists(some, 4) {
		got := tree.Good(one)
		if got != wantGood(one) {
			t.Fatalf("Good of %s: %v", tell(one), got)
		}
		if got {
			good++
		}
	}
	if good < 40 {
		t.Errorf("Good of %d alone", good)
	}
}

// P8.1: of what is not Good: EARG ahead of all, t as it was; false, nothing, 0.
func TestNotGood(t *testing.T) {
	for i, one := range badTrees() {
		was := tree.Tree{L: slices.Clone(one.L)}
		for _, p := range []string{"a", "a/b", "", "/", "A", "z", "a/b/c/d/e"} {
			e, err := tree.Find(one, p)
			if e.Path != "" || e.Dir || e.B != nil || err != api.EARG {
				t.Errorf("Find of number %d: %v, %v", i, e, err)
			}
			put, err1 := tree.Put(one, p, fill(3))
			full, err2 := tree.Put(one, p, fill(2049))
			made, err3 := tree.Make(one, p)
			removed, err4 := tree.Remove(one, p)
			moved, err5 := tree.Move(one, p, "b")
			there, err6 := tree.Move(one, p, p)
			for k, got := range []tree.Tree{put, full, made, removed, moved, there, tree.Clean(one)} {
				if !slices.EqualFunc(got.L, was.L, sameEntry) {
					t.Errorf("of number %d, call %d: %.99s", i, k, tell(got))
				}
			}
			for k, err := range []api.Errno{err1, err2, err3, err4, err5, err6} {
				if err != api.EARG {
					t.Errorf("of number %d, call %d: %v", i, k, err)
				}
			}
			if kids := tree.Kids(one, p); len(kids) != 0 {
				t.Errorf("Kids of number %d: %q", i, kids)
			}
		}
		if tree.Bytes(one) != 0 || tree.Same(one, one) || tree.Same(one, of("a=")) || tree.Same(of("a="), one) || tree.Same(one, tree.Tree{}) {
			t.Errorf("Bytes, Same of number %d: %d", i, tree.Bytes(one))
		}
	}
}

// sameEntry tells whether two entries are alike, good or not.
func sameEntry(a, b tree.Entry) bool {
	return a.Path == b.Path && a.Dir == b.Dir && string(a.B) == string(b.B)
}
