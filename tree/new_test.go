package tree_test

import (
	"bytes"
	"slices"
	"testing"

	"tallyman/api"
	"tallyman/tree"
)

// roomy makes a tree whose lists have spare room, and tells the whole of
// them: as it is, and as it was.
func roomy() (one tree.Tree, whole, was []tree.Entry) {
	whole = of("a/ a/b=bytes a/c=more b=hello c/ z=spare zz=room").L
	for i := range whole {
		whole[i].B = append(whole[i].B, 1, 2, 3)[:len(whole[i].B)]
		was = append(was, whole[i])
		was[i].B = bytes.Clone(whole[i].B[:cap(whole[i].B)])
	}
	return tree.Tree{L: whole[:5]}, whole, was
}

// left tells whether the whole of a tree's lists is as it was.
func left(whole, was []tree.Entry) bool {
	return slices.EqualFunc(whole, was, func(a, b tree.Entry) bool {
		return a.Path == b.Path && a.Dir == b.Dir && bytes.Equal(a.B[:cap(a.B)], b.B)
	})
}

// R3, R4: no call changes a tree that is handed in, spare room included.
func TestLeaves(t *testing.T) {
	one, whole, was := roomy()
	for _, p := range append(paths(), "a/c", "c", "c/a", "d") {
		tree.Good(one)
		tree.Find(one, p)
		tree.Put(one, p, []byte("x"))
		tree.Put(one, p, fill(2049))
		tree.Make(one, p)
		tree.Remove(one, p)
		for _, to := range append(paths(), "a/c", "c", "c/a", "d") {
			tree.Move(one, p, to)
		}
		tree.Kids(one, p)
		tree.Clean(one)
		tree.Same(one, one)
		tree.Bytes(one)
		if !left(whole, was) {
			t.Fatalf("of %q: %s", p, tell(tree.Tree{L: whole}))
		}
	}
}

// R4: the bytes that Put is handed are not kept, nor changed.
func TestPutKeepsNot(t *testing.T) {
	whole := []byte("hello, and spare room")
	for _, text := range []string{"", "a=x", "a/"} {
		one, err := tree.Put(of(text), "b", whole[:5])
		if err != api.OK {
			t.Fatal(err)
		}
		e := one.L[len(one.L)-1]
		for i := range e.B[:cap(e.B)] {
			e.B[:cap(e.B)][i] = 'z'
		}
		if string(whole) != "hello, and spare room" {
			t.Errorf("Put keeps what it is handed: %s", whole)
		}
		one, _ = tree.Put(of(text), "b", whole[:5])
		whole[0] = 'j'
		if e := one.L[len(one.L)-1]; string(e.B) != "hello" {
			t.Errorf("Put keeps what it is handed: %s", e.B)
		}
		whole[0] = 'h'
	}
}

// R4: what Find answers is new memory: it is not in the tree.
func TestFindNew(t *testing.T) {
	one, whole, was := roomy()
	for _, p := range []string{"a", "a/b", "b"} {
		e, err := tree.Find(one, p)
		if err != api.OK {
			t.Fatal(err)
		}
		b := e.B[:cap(e.B)]
		for i := range b {
			b[i] = 'z'
		}
		if !left(whole, was) {
			t.Errorf("Find of %s answers what is in the tree: %s", p, tell(one))
		}
	}
}

// R4: what Kids answers is new memory each time.
func TestKidsNew(t *testing.T) {
	one, whole, was := roomy()
	l := tree.Kids(one, "a")
	l = l[:cap(l)]
	for i := range l {
		l[i] = "z"
	}
	if got := tree.Kids(one, "a"); !slices.Equal(got, []string{"a/b", "a/c"}) || !left(whole, was) {
		t.Errorf("Kids again: %q", got)
	}
}

// R4: a tree that is answered may share bytes with the one handed in, but
// later calls on either leave the other as it is.
func TestEachItsOwn(t *testing.T) {
	one := of("a/ a/b=bytes b=hello")
	var l []tree.Tree
	for _, p := range []string{"c", "d", "e"} {
		put, _ := tree.Put(one, p, []byte(p))
		made, _ := tree.Make(one, p)
		moved, _ := tree.Move(one, "b", p)
		l = append(l, put, made, moved)
	}
	for i, want := range []string{
		"a/ a/b=bytes b=hello c=c", "a/ a/b=bytes b=hello c/", "a/ a/b=bytes c=hello",
		"a/ a/b=bytes b=hello d=d", "a/ a/b=bytes b=hello d/", "a/ a/b=bytes d=hello",
		"a/ a/b=bytes b=hello e=e", "a/ a/b=bytes b=hello e/", "a/ a/b=bytes e=hello",
	} {
		if tell(l[i]) != want {
			t.Errorf("number %d: %s, want %s", i, tell(l[i]), want)
		}
	}
}
