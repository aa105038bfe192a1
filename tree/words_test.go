package tree_test

import (
	"maps"
	"slices"
	"testing"

	"tallyman/api"
	"tallyman/path"
	"tallyman/tree"
)

// model is a tree as a map of its entries, whose calls go by the document's
// words, sentence by sentence.
type model map[string]tree.Entry

// modelOf makes one of a tree.
func modelOf(t tree.Tree) model {
	m := model{}
	for _, e := range t.L {
		m[e.Path] = e
	}
	return m
}

// tree makes a tree of one.
func (m model) tree() tree.Tree {
	return tree.Tree{L: slices.SortedFunc(maps.Values(m), func(a, b tree.Entry) int { return path.Cmp(a.Path, b.Path) })}
}

// up tells the error of what a path is in.
func (m model) up(p string) api.Errno {
	up, _ := path.Up(p)
	e, there := m[up]
	switch {
	case up == "":
		return api.OK
	case !there:
		return api.ENONE
	case !e.Dir:
		return api.EKIND
	}
	return api.OK
}

// with adds an entry, if the limits allow it.
func (m model) with(e tree.Entry) (model, api.Errno) {
	n := maps.Clone(m)
	n[e.Path] = e
	all := 0
	for _, e := range n {
		all += len(e.B)
	}
	if len(n) > 40 || len(e.B) > 2048 || all > 16384 {
		return m, api.EFULL
	}
	return n, api.OK
}

// without leaves out one.
func (m model) without(p string) model {
	n := maps.Clone(m)
	delete(n, p)
	return n
}

func (m model) put(p string, b []byte) (model, api.Errno) {
	if !path.Good(p) {
		return m, api.EPATH
	}
	if err := m.up(p); err != api.OK {
		return m, err
	}
	if m[p].Dir {
		return m, api.EKIND
	}
	return m.with(tree.Entry{Path: p, B: b})
}

func (m model) make(p string) (model, api.Errno) {
	if !path.Good(p) {
		return m, api.EPATH
	}
	if _, there := m[p]; there {
		return m, api.EEXIST
	}
	if err := m.up(p); err != api.OK {
		return m, err
	}
	return m.with(tree.Entry{Path: p, Dir: true})
}

func (m model) remove(p string) (model, api.Errno) {
	if !path.Good(p) {
		return m, api.EPATH
	}
	if _, there := m[p]; !there {
		return m, api.ENONE
	}
	for q := range m {
		if path.Under(q, p) {
			return m, api.EKIDS
		}
	}
	return m.without(p), api.OK
}

func (m model) move(from, to string) (model, api.Errno) {
	if !path.Good(from) || !path.Good(to) {
		return m, api.EPATH
	}
	e, there := m[from]
	if !there {
		return m, api.ENONE
	}
	if e.Dir {
		return m, api.EKIND
	}
	n, err := m.without(from).put(to, e.B)
	if err != api.OK {
		return m, err
	}
	return n, api.OK
}

// paths are those that the calls below are asked for.
func paths() []string {
	return []string{"a", "a/b", "a/b/c", "a/b/c/d", "a-b", "a-b/c", "b", "b/a", ".work", ".work/a", "z", "", "A", "a/", "a/b/c/d/e"}
}

// agree sees that each call on a tree answers as the model does, and tells
// the trees that come of them.
func agree(t *testing.T, one tree.Tree, b []byte) []tree.Tree {
	t.Helper()
	var l []tree.Tree
	m, was := modelOf(one), tell(one)
	same := func(call string, got tree.Tree, err api.Errno, want model, wantErr api.Errno) {
		t.Helper()
		if tell(got) != tell(want.tree()) || err != wantErr || !tree.Good(got) {
			t.Fatalf("%s in %s: %s, %v; want %s, %v", call, was, tell(got), err, tell(want.tree()), wantErr)
		}
		l = append(l, got)
	}
	for _, p := range paths() {
		got, err := tree.Put(one, p, b)
		want, wantErr := m.put(p, b)
		same("Put "+p, got, err, want, wantErr)
		got, err = tree.Make(one, p)
		want, wantErr = m.make(p)
		same("Make "+p, got, err, want, wantErr)
		got, err = tree.Remove(one, p)
		want, wantErr = m.remove(p)
		same("Remove "+p, got, err, want, wantErr)
		for _, to := range paths() {
			got, err = tree.Move(one, p, to)
			want, wantErr = m.move(p, to)
			same("Move "+p+" "+to, got, err, want, wantErr)
		}
	}
	if tell(one) != was {
		t.Fatalf("%s was changed: %s", was, tell(one))
	}
	return l
}

// asked sees that the calls that only ask answer as the model does.
func asked(t *testing.T, one tree.Tree) {
	t.Helper()
	m, clean, all := modelOf(one), model{}, 0
	for _, p := range paths() {
		e, err := tree.Find(one, p)
		want, there := m[p]
		if !sameEntry(e, want) || (err == api.OK) != there || (err == api.EPATH) != !path.Good(p) {
			t.Fatalf("Find of %s in %s: %v, %v", p, tell(one), e, err)
		}
		var kids []string
		for _, q := range m.tree().L {
			if up, _ := path.Up(q.Path); up == p {
				kids = append(kids, q.Path)
			}
		}
		if got := tree.Kids(one, p); !slices.Equal(got, kids) {
			t.Fatalf("Kids of %s in %s: %q", p, tell(one), got)
		}
	}
	for p, e := range m {
		all += len(e.B)
		if !path.Inside(p) {
			clean[p] = e
		}
	}
	if got := tree.Clean(one); tell(got) != tell(clean.tree()) {
		t.Fatalf("Clean of %s: %s", tell(one), tell(got))
	}
	if got := tree.Bytes(one); got != all || !tree.Same(one, m.tree()) {
		t.Fatalf("Bytes of %s: %d", tell(one), got)
	}
}

// P8.1, R6: each call on each tree of few steps, told by the document's words.
func TestWords(t *testing.T) {
	seen := map[string]int{}
	now := []tree.Tree{{}}
	for range 4 {
		var next []tree.Tree
		for _, one := range now {
			asked(t, one)
			for _, got := range agree(t, one, []byte("x")) {
				if seen[tell(got)] == 0 {
					next = append(next, got)
				}
				seen[tell(got)]++
			}
		}
		now = next
	}
	if len(seen) < 100 {
		t.Errorf("%d trees alone", len(seen))
	}
}

// P8.1: so at the limits too, where trees are full, or nearly.
func TestWordsFull(t *testing.T) {
	for _, full := range []tree.Tree{many(40, 1), many(39, 1), many(38, 1), many(8, 2048), many(7, 2048), many(40, 409), join(of("a/ a/b=x"), many(38, 9)), join(of("a/ a/b=x"), many(8, 2047))} {
		for _, n := range []int{0, 1, 7, 8, 9, 2047, 2048, 2049} {
			asked(t, full)
			agree(t, full, fill(n))
		}
	}
}

// P8.1, R5: a long walk, each step from the last one's answer.
func TestWalk(t *testing.T) {
	one, m, seed := tree.Tree{}, model{}, uint32(1)
	pick := func(n int) int {
		seed = seed*1103515245 + 12345
		return int(seed>>8) % n
	}
	names, done := []string{"a", "b", "a-b", ".work", "c"}, 0
	somewhere := func() string {
		p := names[pick(5)]
		for range pick(pick(4) + 1) {
			p += "/" + names[pick(5)]
		}
		return p
	}
	for i := range 20000 {
		var got tree.Tree
		var want model
		var err, wantErr api.Errno
		p, to, b := somewhere(), somewhere(), fill(pick(1200))
		switch pick(7) {
		case 0, 1:
			got, err = tree.Put(one, p, b)
			want, wantErr = m.put(p, b)
		case 2, 3:
			got, err = tree.Make(one, p)
			want, wantErr = m.make(p)
		case 4:
			got, err = tree.Remove(one, p)
			want, wantErr = m.remove(p)
		default:
			got, err = tree.Move(one, p, to)
			want, wantErr = m.move(p, to)
		}
		if err != wantErr || !tree.Same(got, want.tree()) {
			t.Fatalf("step %d: %v, want %v", i, err, wantErr)
		}
		if one, m = got, want; err == api.OK {
			done++
		}
	}
	if done < 500 {
		t.Errorf("%d steps alone", done)
	}
}
