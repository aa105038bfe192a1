package tree_test

import (
	"slices"
	"strings"
	"testing"

	"tallyman/api"
	"tallyman/tree"
)

// call is one that answers a tree, and what it is to answer: that tree, told
// as a text, or with an error the tree as it was.
type call struct {
	t, p, to string
	want     string
	err      api.Errno
}

// check sees that a call answers what it is to answer.
func check(t *testing.T, name string, c call, got tree.Tree, err api.Errno) {
	t.Helper()
	want := c.want
	if c.err != api.OK {
		want = c.t
	}
	if tell(got) != want || err != c.err {
		t.Errorf("%s of %s in %s: %s, %v; want %s, %v", name, c.p, c.t, tell(got), err, want, c.err)
	}
}

// P8.1, the example: Make a, Put a/b: two entries.
func TestExample(t *testing.T) {
	one, err := tree.Make(tree.Tree{}, "a")
	two, err2 := tree.Put(one, "a/b", []byte("hi"))
	if err != api.OK || err2 != api.OK || len(two.L) != 2 || tell(two) != "a/ a/b=hi" {
		t.Errorf("%v, %v, %s", err, err2, tell(two))
	}
}

// P8.1: Find finds a file, a Dir; EPATH of what may not be; ENONE.
func TestFind(t *testing.T) {
	for _, c := range []struct {
		t, p, want string
		err        api.Errno
	}{
		{"a=hello", "a", "a=hello", 0}, {"a/", "a", "a/", 0}, {"a/ a/b=x", "a/b", "a/b=x", 0}, {"a/ a/b=x c=", "c", "c=", 0}, {"a/ a/b/ a/b/c/ a/b/c/d=x", "a/b/c/d", "a/b/c/d=x", 0},
		{"a/ a/b=1 a-b=2 a.b=3", "a-b", "a-b=2", 0}, {".work/ .work/a=x", ".work/a", ".work/a=x", 0},
		{"", "a", "", api.ENONE}, {"a=", "b", "", api.ENONE}, {"a=", "a/b", "", api.ENONE}, {"a/ a/b=", "a/c", "", api.ENONE}, {"a/ a/b=", "b", "", api.ENONE}, {"b= c=", "a", "", api.ENONE}, {"a/ b/", "c/d/e", "", api.ENONE},
		{"a=", "", "", api.EPATH}, {"a=", "A", "", api.EPATH}, {"", "", "", api.EPATH}, {"a/", "a/", "", api.EPATH}, {"a/", "/a", "", api.EPATH}, {"a/ a/b=", "a//b", "", api.EPATH}, {"a/", "a/..", "", api.EPATH}, {"a/", ".", "", api.EPATH}, {"a/", "a/b/c/d/e", "", api.EPATH}, {"a=", "abcdefghijklmnopq", "", api.EPATH},
	} {
		got, err := tree.Find(of(c.t), c.p)
		want := tree.Entry{}
		if c.want != "" {
			want = of(c.want).L[0]
		}
		if !sameEntry(got, want) || err != c.err {
			t.Errorf("Find of %s in %s: %v, %v", c.p, c.t, got, err)
		}
	}
}

// P8.1: Put puts a new file, or other B, in its order; and when it does not.
func TestPut(t *testing.T) {
	for _, c := range []call{
		{t: "", p: "a", want: "a=new"}, {t: "a=old", p: "a", want: "a=new"}, {t: "a=", p: "b", want: "a= b=new"}, {t: "b=", p: "a", want: "a=new b="}, {t: "a= c=", p: "b", want: "a= b=new c="}, {t: "a= b=old c=", p: "b", want: "a= b=new c="},
		{t: "a/", p: "a/b", want: "a/ a/b=new"}, {t: "a/ a-b=x", p: "a/z", want: "a/ a/z=new a-b=x"}, {t: "a/ a/b/ a/b/c/", p: "a/b/c/d", want: "a/ a/b/ a/b/c/ a/b/c/d=new"}, {t: "a/ a/b=x b/", p: "b/a", want: "a/ a/b=x b/ b/a=new"}, {t: "a/ a/b=x b=y", p: "a-b", want: "a/ a/b=x a-b=new b=y"},
		{t: "", p: ".work", want: ".work=new"}, {t: ".work/", p: ".work/x", want: ".work/ .work/x=new"},
		{t: "", p: "", err: api.EPATH}, {t: "a/", p: "a/", err: api.EPATH}, {t: "a/", p: "A", err: api.EPATH}, {t: "a=", p: "a/B", err: api.EPATH}, {t: "", p: "b/..", err: api.EPATH}, {t: "", p: "a/b/c/d/e", err: api.EPATH},
		{t: "", p: "a/b", err: api.ENONE}, {t: "a/", p: "b/c", err: api.ENONE}, {t: "a/", p: "a/b/c", err: api.ENONE}, {t: "a=", p: "a/b/c", err: api.ENONE}, {t: "ab/", p: "a/b", err: api.ENONE}, {t: "a/ a/b=", p: "a/b/c/d", err: api.ENONE},
		{t: "a=", p: "a/b", err: api.EKIND}, {t: "a/ a/b=x", p: "a/b/c", err: api.EKIND}, {t: "a/", p: "a", err: api.EKIND}, {t: "a/ a/b/", p: "a/b", err: api.EKIND}, {t: "a/ a/b=", p: "a", err: api.EKIND},
	} {
		got, err := tree.Put(of(c.t), c.p, []byte("new"))
		check(t, "Put", c, got, err)
	}
}

// P8.1: Put up to each of the limits, EFULL one past it.
func TestPutFull(t *testing.T) {
	for _, c := range []struct {
		name string
		t    tree.Tree
		p    string
		n    int
		err  api.Errno
	}{
		{"as long as may be", tree.Tree{}, "a", 2048, 0}, {"longer", tree.Tree{}, "a", 2049, api.EFULL}, {"much longer", tree.Tree{}, "a", 1 << 26, api.EFULL}, {"as long, there", of("a=x"), "a", 2048, 0}, {"longer, there", of("a=x"), "a", 2049, api.EFULL},
		{"the last", many(39, 1), "g", 1, 0}, {"one more", many(40, 1), "g", 1, api.EFULL}, {"one more, of no bytes", dirs(40), "g", 0, api.EFULL}, {"one more, within", dirs(40), "d00/a", 0, api.EFULL}, {"one of forty anew", many(40, 1), "f39", 2, 0}, {"the first of forty anew", many(40, 1), "f00", 0, 0},
		{"the last bytes", many(7, 2048), "g", 2048, 0}, {"no bytes more", many(8, 2048), "g", 0, 0}, {"one byte more", many(8, 2048), "g", 1, api.EFULL}, {"all bytes anew", many(8, 2048), "f03", 2048, 0}, {"fewer bytes", many(8, 2048), "f03", 0, 0},
		{"just those", join(of("a=z"), many(8, 2047)), "a", 8, 0}, {"one too many", join(of("a=z"), many(8, 2047)), "a", 9, api.EFULL},
		{"full, and a Dir", dirs(40), "d00", 2049, api.EKIND}, {"full, and in a file", many(40, 1), "f00/a", 2049, api.EKIND}, {"full, and in none", many(40, 1), "g/a", 2049, api.ENONE}, {"full, and no path", many(40, 1), "G", 2049, api.EPATH},
	} {
		was := tell(c.t)
		got, err := tree.Put(c.t, c.p, fill(c.n))
		if err != c.err {
			t.Errorf("Put, %s: %v", c.name, err)
		}
		if e, there := tree.Find(got, c.p); c.err == api.OK && (there != api.OK || len(e.B) != c.n || e.Dir || !tree.Good(got)) {
			t.Errorf("Put, %s: %d bytes, %v", c.name, len(e.B), there)
		}
		if c.err != api.OK && tell(got) != was {
			t.Errorf("Put, %s: not as it was", c.name)
		}
	}
}

// P8.1: Make makes a Dir, in its order; and when it does not.
func TestMake(t *testing.T) {
	for _, c := range []call{
		{t: "", p: "a", want: "a/"}, {t: "b=", p: "a", want: "a/ b="}, {t: "a=x", p: "b", want: "a=x b/"}, {t: "a/", p: "a/b", want: "a/ a/b/"}, {t: "a/ a-b=x", p: "a/z", want: "a/ a/z/ a-b=x"}, {t: "a/ a/b/ a/b/c/", p: "a/b/c/d", want: "a/ a/b/ a/b/c/ a/b/c/d/"}, {t: "", p: ".work", want: ".work/"},
		{t: "", p: "", err: api.EPATH}, {t: "a/", p: "a/", err: api.EPATH}, {t: "a/", p: "A", err: api.EPATH}, {t: "a=", p: "a/..", err: api.EPATH}, {t: "a/ a/b/ a/b/c/ a/b/c/d/", p: "a/b/c/d/e", err: api.EPATH},
		{t: "a/", p: "a", err: api.EEXIST}, {t: "a=", p: "a", err: api.EEXIST}, {t: "a/ a/b=x", p: "a", err: api.EEXIST}, {t: "a/ a/b=x", p: "a/b", err: api.EEXIST}, {t: "a/ a/b/", p: "a/b", err: api.EEXIST},
		{t: "", p: "a/b", err: api.ENONE}, {t: "a/", p: "b/c", err: api.ENONE}, {t: "a/", p: "a/b/c", err: api.ENONE}, {t: "a=", p: "a/b/c", err: api.ENONE}, {t: "ab/", p: "a/b", err: api.ENONE},
		{t: "a=", p: "a/b", err: api.EKIND}, {t: "a/ a/b=x", p: "a/b/c", err: api.EKIND},
	} {
		got, err := tree.Make(of(c.t), c.p)
		check(t, "Make", c, got, err)
	}
}

// P8.1: Make up to the limit, EFULL one past it, behind the other errors.
func TestMakeFull(t *testing.T) {
	for _, c := range []struct {
		t   tree.Tree
		p   string
		err api.Errno
	}{
		{dirs(39), "e", 0}, {many(39, 1), "a", 0}, {dirs(39), "d00/a", 0}, {many(8, 2048), "a", 0},
		{dirs(40), "e", api.EFULL}, {many(40, 1), "a", api.EFULL}, {dirs(40), "d39/a", api.EFULL},
		{dirs(40), "d00", api.EEXIST}, {many(40, 1), "f39", api.EEXIST}, {many(40, 1), "f00/a", api.EKIND}, {many(40, 1), "g/a", api.ENONE}, {many(40, 1), "G", api.EPATH},
	} {
		was := tell(c.t)
		got, err := tree.Make(c.t, c.p)
		if err != c.err {
			t.Errorf("Make of %s among %d: %v", c.p, len(c.t.L), err)
		}
		if e, there := tree.Find(got, c.p); c.err == api.OK && (there != api.OK || !e.Dir || !tree.Good(got) || len(got.L) != len(c.t.L)+1) {
			t.Errorf("Make of %s among %d: %v, %v", c.p, len(c.t.L), e, there)
		}
		if c.err != api.OK && tell(got) != was {
			t.Errorf("Make of %s: not as it was", c.p)
		}
	}
}

// P8.1: Remove takes away a file, or a Dir in which nothing is.
func TestRemove(t *testing.T) {
	for _, c := range []call{
		{t: "a=x", p: "a", want: ""}, {t: "a/", p: "a", want: ""}, {t: "a= b= c=", p: "a", want: "b= c="}, {t: "a= b= c=", p: "b", want: "a= c="}, {t: "a= b= c=", p: "c", want: "a= b="},
		{t: "a/ a/b=x", p: "a/b", want: "a/"}, {t: "a/ a/b/", p: "a/b", want: "a/"}, {t: "a/ a-b=x", p: "a", want: "a-b=x"}, {t: "a/ ab/ ab/c=", p: "a", want: "ab/ ab/c="}, {t: "a/ b/ b/a=", p: "a", want: "b/ b/a="}, {t: ".work/", p: ".work", want: ""},
		{t: "a/", p: "", err: api.EPATH}, {t: "a/", p: "a/", err: api.EPATH}, {t: "", p: "", err: api.EPATH}, {t: "a/ a/b=", p: "A", err: api.EPATH}, {t: "a/", p: "/", err: api.EPATH},
		{t: "", p: "a", err: api.ENONE}, {t: "a=", p: "b", err: api.ENONE}, {t: "a=", p: "a/b", err: api.ENONE}, {t: "a/ a/b=", p: "a/c", err: api.ENONE}, {t: "a/ a/b=", p: "b", err: api.ENONE},
		{t: "a/ a/b=", p: "a", err: api.EKIDS}, {t: "a/ a/b/", p: "a", err: api.EKIDS}, {t: "a/ a/b/ a/b/c=", p: "a", err: api.EKIDS}, {t: "a/ a/b/ a/b/c=", p: "a/b", err: api.EKIDS}, {t: ".work/ .work/a=", p: ".work", err: api.EKIDS},
	} {
		got, err := tree.Remove(of(c.t), c.p)
		check(t, "Remove", c, got, err)
	}
}

// P8.1: Move moves a file, over another too; and when it does not.
func TestMove(t *testing.T) {
	for _, c := range []call{
		{t: "a=x", p: "a", to: "b", want: "b=x"}, {t: "b=x", p: "b", to: "a", want: "a=x"}, {t: "a=x b=y", p: "a", to: "b", want: "b=x"}, {t: "a=x b=y", p: "b", to: "a", want: "a=y"}, {t: "a=x b=y c=z", p: "a", to: "d", want: "b=y c=z d=x"}, {t: "b=y c=z d=x", p: "d", to: "a", want: "a=x b=y c=z"},
		{t: "a=x b/", p: "a", to: "b/a", want: "b/ b/a=x"}, {t: "a/ a/b=x", p: "a/b", to: "b", want: "a/ b=x"}, {t: "a/ a/b=x a/c/ a/c/d=", p: "a/b", to: "a/c/d", want: "a/ a/c/ a/c/d=x"}, {t: ".work/ .work/a=x b=y", p: ".work/a", to: "b", want: ".work/ b=x"}, {t: "a=", p: "a", to: "b", want: "b="},
		// From is to: as it was, if it is a file that is there.
		{t: "a=x", p: "a", to: "a", want: "a=x"}, {t: "a/ a/b=x c=y", p: "a/b", to: "a/b", want: "a/ a/b=x c=y"}, {t: "a/", p: "a", to: "a", err: api.EKIND}, {t: "", p: "a", to: "a", err: api.ENONE}, {t: "", p: "", to: "", err: api.EPATH},
		{t: "a=x", p: "", to: "b", err: api.EPATH}, {t: "a=x", p: "a", to: "", err: api.EPATH}, {t: "a=x", p: "A", to: "b", err: api.EPATH}, {t: "a=x", p: "a", to: "B", err: api.EPATH}, {t: "a=x", p: "b", to: "B", err: api.EPATH}, {t: "a/", p: "a", to: "a/", err: api.EPATH}, {t: "a=", p: "a", to: "b/c/d/e/f", err: api.EPATH},
		{t: "a=x", p: "b", to: "a", err: api.ENONE}, {t: "a=x", p: "b", to: "c", err: api.ENONE}, {t: "a/ b/", p: "c", to: "a", err: api.ENONE}, {t: "a=x", p: "a/b", to: "a/c", err: api.ENONE}, {t: "a=x", p: "b", to: "a/c", err: api.ENONE},
		{t: "a/", p: "a", to: "b", err: api.EKIND}, {t: "a/ a/b=", p: "a", to: "b", err: api.EKIND}, {t: "a/", p: "a", to: "b/c", err: api.EKIND}, {t: "a/", p: "a", to: "a/b", err: api.EKIND}, {t: "a/ b=", p: "a", to: "b", err: api.EKIND},
		// As Put of to.
		{t: "a=x", p: "a", to: "b/c", err: api.ENONE}, {t: "a=x b/", p: "a", to: "b/c/d", err: api.ENONE}, {t: "a=x b=y", p: "a", to: "b/c", err: api.EKIND}, {t: "a=x b/", p: "a", to: "b", err: api.EKIND}, {t: "a/ a/b=x", p: "a/b", to: "a", err: api.EKIND}, {t: "a=x b/ b/c/", p: "a", to: "b/c", err: api.EKIND},
		// Without from there: what is to be in it is in nothing.
		{t: "a=x", p: "a", to: "a/b", err: api.ENONE}, {t: "a=x", p: "a", to: "a/b/c", err: api.ENONE}, {t: "a/ a/b=x", p: "a/b", to: "a/b/c", err: api.ENONE},
	} {
		got, err := tree.Move(of(c.t), c.p, c.to)
		check(t, "Move to "+c.to, c, got, err)
	}
}

// P8.1: Move in a tree that is full: what goes makes room.
func TestMoveFull(t *testing.T) {
	for _, one := range []tree.Tree{many(40, 1), many(8, 2048), many(40, 409)} {
		for _, to := range []string{"a", "z", "f03", "f04"} {
			got, err := tree.Move(one, "f03", to)
			e, there := tree.Find(got, to)
			if err != api.OK || there != api.OK || len(e.B) != len(one.L[0].B) || !tree.Good(got) {
				t.Errorf("Move of f03 to %s among %d: %v, %v", to, len(one.L), err, there)
			}
		}
	}
}

// P8.1: Kids are the paths just within, in order.
func TestKids(t *testing.T) {
	const text = ".work/ .work/t=x a/ a/b/ a/b/c/ a/b/c/d=x a/b-c= a/c=y a-b/ a-b/x= ab= b/ c=z"
	for _, c := range [][2]string{
		{"", ".work a a-b ab b c"}, {"a", "a/b a/b-c a/c"}, {"a/b", "a/b/c"}, {"a/b/c", "a/b/c/d"}, {"a-b", "a-b/x"}, {".work", ".work/t"},
		{"b", ""}, {"c", ""}, {"a/b/c/d", ""}, {"a/c", ""}, {"d", ""}, {"a/d", ""}, {"a/b/x", ""}, {"/", ""}, {"a/", ""}, {"/a", ""}, {".", ""}, {"..", ""}, {"A", ""}, {"a/b/c/d/e", ""}, {" ", ""},
	} {
		if got := tree.Kids(of(text), c[0]); !slices.Equal(got, strings.Fields(c[1])) {
			t.Errorf("Kids of %q: %q, want %s", c[0], got, c[1])
		}
	}
	for _, p := range []string{"", "a"} {
		if got := tree.Kids(tree.Tree{}, p); len(got) != 0 {
			t.Errorf("Kids of nothing: %q", got)
		}
	}
}

// P8.1: Clean is without what is Inside, and nothing else.
func TestClean(t *testing.T) {
	for _, c := range [][2]string{
		{"", ""}, {"a=x", "a=x"}, {".work/", ""}, {".work=x", ""}, {".work/ .work/a=x", ""}, {".work/ .work/a/ .work/a/b/ .work/a/b/c=x", ""}, {"-= .work/ .work/a=x a/ a/b=y", "-= a/ a/b=y"},
		{".wor/ .work/ .work/a= .work-/ .work-/a= .work.a= .works= a/ a/.work/ a/.work/x=y b=", ".wor/ .work-/ .work-/a= .work.a= .works= a/ a/.work/ a/.work/x=y b="},
	} {
		if got := tree.Clean(of(c[0])); tell(got) != c[1] || !tree.Good(got) {
			t.Errorf("Clean of %s: %s", c[0], tell(got))
		}
	}
}

// P8.1: Same is alike in all: how many, paths, kinds, bytes.
func TestSame(t *testing.T) {
	l := goodTrees()
	for i, a := range l {
		for k, b := range l {
			if got := tree.Same(a, b); got != (tell(a) == tell(b)) {
				t.Errorf("Same of number %d, %d: %v", i, k, got)
			}
		}
	}
	for _, c := range [][2]string{{"a=x", "a=y"}, {"a=x", "a="}, {"a=x", "a=xx"}, {"a=", "a/"}, {"a=", "b="}, {"a=", "a= b="}, {"a/", "a/ a/b="}, {"", "a="}, {"a/ a/b=x c=y", "a/ a/b=x c=z"}, {"a=ab", "a=aB"}} {
		if tree.Same(of(c[0]), of(c[1])) || tree.Same(of(c[1]), of(c[0])) {
			t.Errorf("Same of %s, %s: true", c[0], c[1])
		}
	}
	// nil and an empty list are one.
	a := tree.Tree{L: []tree.Entry{{Path: "a", Dir: true}, {Path: "b"}}}
	b := tree.Tree{L: []tree.Entry{{Path: "a", Dir: true, B: []byte{}}, {Path: "b", B: []byte{}}}}
	if !tree.Same(a, b) || !tree.Same(b, a) || !tree.Same(tree.Tree{}, tree.Tree{L: []tree.Entry{}}) {
		t.Error("Same of no bytes: false")
	}
}

// P8.1: Bytes are those of all files together.
func TestBytes(t *testing.T) {
	for text, want := range map[string]int{"": 0, "a/": 0, "a=": 0, "a=x": 1, "a=hello": 5, "a/ a/b=12 a/c/ a/c/d=345 e=6": 6, ".work/ .work/a=xyz b=x": 4} {
		if got := tree.Bytes(of(text)); got != want {
			t.Errorf("Bytes of %s: %d", text, got)
		}
	}
	if tree.Bytes(many(8, 2048)) != api.MaxBytes || tree.Bytes(many(40, 409)) != 16360 {
		t.Errorf("Bytes of many: %d, %d", tree.Bytes(many(8, 2048)), tree.Bytes(many(40, 409)))
	}
}
