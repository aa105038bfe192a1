package disk_test

import (
	"fmt"
	"slices"
	"strconv"
	"strings"
	"testing"

	"tallyman/api"
	"tallyman/disk"
	"tallyman/tree"
)

// of makes a tree of a text, word by word: a/b/ is a Dir, a/b=xyz is a file
// with xyz in it.
func of(text string) tree.Tree {
	var t tree.Tree
	for word := range strings.FieldsSeq(text) {
		p, b, file := strings.Cut(word, "=")
		if file {
			t.L = append(t.L, tree.Entry{Path: p, B: []byte(b)})
		} else {
			t.L = append(t.L, tree.Entry{Path: strings.TrimSuffix(p, "/"), Dir: true})
		}
	}
	return t
}

// tell makes a text of a tree, of's other way.
func tell(t tree.Tree) string {
	var l []string
	for _, e := range t.L {
		if e.Dir {
			l = append(l, e.Path+"/"+string(e.B))
		} else {
			l = append(l, e.Path+"="+string(e.B))
		}
	}
	return strings.Join(l, " ")
}

// changes makes changes of a text, parted by commas: "1 a x" puts x into a,
// "2 a" makes a, "3 a" removes it, "4 a b" moves it to b.
func changes(text string) []disk.Change {
	var l []disk.Change
	for one := range strings.SplitSeq(text, ",") {
		w := append(strings.Fields(one), "", "", "")
		op, err := strconv.Atoi(w[0])
		if err != nil {
			continue
		}
		c := disk.Change{Op: op, Path: w[1]}
		if op == 4 {
			c.To = w[2]
		} else if op == 1 {
			c.B = []byte(w[2])
		}
		l = append(l, c)
	}
	return l
}

// tellChanges makes a text of changes: all of what is in each.
func tellChanges(l []disk.Change) string {
	var out []string
	for _, c := range l {
		out = append(out, strconv.Itoa(c.Op)+" "+strings.Join(strings.Fields(c.Path+" "+c.To+" "+string(c.B)), " "))
	}
	return strings.Join(out, ",")
}

// begin makes a disk with a tree, and does changes to it, all of which are OK.
func begin(t *testing.T, text string, quota int, some string) *disk.Disk {
	t.Helper()
	d, err := disk.New(of(text), quota)
	if err != api.OK {
		t.Fatalf("New of %s, %d: %v", text, quota, err)
	}
	for _, c := range changes(some) {
		if err := d.Do(c); err != api.OK {
			t.Fatalf("Do of %v in %s: %v", c, tell(d.Now()), err)
		}
	}
	return d
}

// state tells all that a disk answers, but the Count.
func state(d *disk.Disk) string {
	return tell(d.Now()) + " | " + tell(d.Lasts()) + " | " + tellChanges(d.Waits()) + " | " + strconv.FormatBool(d.Off())
}

// is sees that a disk answers just so.
func is(t *testing.T, name string, d *disk.Disk, now, lasts, waits string, off bool, count int64) {
	t.Helper()
	want := now + " | " + lasts + " | " + waits + " | " + strconv.FormatBool(off)
	if got := state(d); got != want || d.Count() != count {
		t.Errorf("%s: %s, %d; want %s, %d", name, got, d.Count(), want, count)
	}
}

// fill makes n bytes.
func fill(n int) []byte { return []byte(strings.Repeat("x", n)) }

// files makes files f00, f01 .. of so many bytes each.
func files(sizes ...int) tree.Tree {
	var t tree.Tree
	for i, n := range sizes {
		t.L = append(t.L, tree.Entry{Path: fmt.Sprintf("f%02d", i), B: fill(n)})
	}
	return t
}

// P9.1, the example: Do Put, Crash(nil, -1): it is not there.
func TestExample(t *testing.T) {
	d := begin(t, "", api.MaxBytes, "1 a hello")
	is(t, "behind Do", d, "a=hello", "", "1 a hello", false, 1)
	d.Crash(nil, -1)
	is(t, "behind Crash", d, "", "", "", true, 1)
}

// P9.1: New: power on; t is Now, and lasts; nothing waits.
func TestNew(t *testing.T) {
	for _, text := range []string{"", "a=", "a=x", "a/", "a/ a/b=x a-b=y", ".work/ .work/t1=z a=b"} {
		for _, quota := range []int{0, 1, 3, 16383, 16384} {
			d, err := disk.New(of(text), quota)
			if err != api.OK {
				t.Fatalf("New of %s, %d: %v", text, quota, err)
			}
			is(t, "New of "+text, d, text, text, "", false, 0)
		}
	}
	for _, full := range []tree.Tree{files(2048), files(2048, 2048, 2048, 2048, 2048, 2048, 2048, 2048), files(make([]int, 40)...)} {
		d, err := disk.New(full, 0)
		if err != api.OK || !tree.Same(d.Now(), full) || !tree.Same(d.Lasts(), full) {
			t.Errorf("New of %d: %v", len(full.L), err)
		}
	}
}

// P9.1, R2: New: EARG of a t that is not Good, of a quota not from 0 to
// MaxBytes; and no Disk then.
func TestNewNot(t *testing.T) {
	const least = -1 << 63
	for _, text := range []string{"b= a=", "a= a=", "a/ a=", "a/b=", "a= a/b=", "A=", "a/ a/..=", "a/b/c/d/e="} {
		for _, quota := range []int{0, 5, 16384, -1, 16385} {
			if d, err := disk.New(of(text), quota); d != nil || err != api.EARG {
				t.Errorf("New of %s, %d: %v, %v", text, quota, d, err)
			}
		}
	}
	for i, over := range []tree.Tree{files(2049), files(2048, 2048, 2048, 2048, 2048, 2048, 2048, 2048, 1), files(make([]int, 41)...), {L: []tree.Entry{{Path: "a", Dir: true, B: fill(1)}}}, {L: make([]tree.Entry, 1)}} {
		if d, err := disk.New(over, 16384); d != nil || err != api.EARG {
			t.Errorf("New of number %d: %v, %v", i, d, err)
		}
	}
	for _, quota := range []int{-1, 16385, least, 1<<63 - 1, 1 << 32} {
		for _, text := range []string{"", "a=x"} {
			if d, err := disk.New(of(text), quota); d != nil || err != api.EARG {
				t.Errorf("New of %s, %d: %v, %v", text, quota, d, err)
			}
		}
	}
}

// P9.1: Do does tree's Put, Make, Remove, Move of Now; the change waits, and
// does not last.
func TestDo(t *testing.T) {
	const base = "a/ a/b=x a/d/ c=yy"
	for _, c := range [][2]string{
		{"1 q z", "a/ a/b=x a/d/ c=yy q=z"}, {"1 a/b new", "a/ a/b=new a/d/ c=yy"}, {"1 c", "a/ a/b=x a/d/ c="}, {"1 a/d/e z", "a/ a/b=x a/d/ a/d/e=z c=yy"}, {"1 a/b x", base},
		{"2 q", "a/ a/b=x a/d/ c=yy q/"}, {"2 a/d/e", "a/ a/b=x a/d/ a/d/e/ c=yy"}, {"2 .work", ".work/ a/ a/b=x a/d/ c=yy"},
		{"3 c", "a/ a/b=x a/d/"}, {"3 a/b", "a/ a/d/ c=yy"}, {"3 a/d", "a/ a/b=x c=yy"},
		{"4 c q", "a/ a/b=x a/d/ q=yy"}, {"4 a/b c", "a/ a/d/ c=x"}, {"4 c a/d/c", "a/ a/b=x a/d/ a/d/c=yy"}, {"4 c c", base},
		{"2 .work,1 .work/t1 new,4 .work/t1 c,3 .work", "a/ a/b=x a/d/ c=new"}, {"3 a/b,3 a/d,3 a,1 a z", "a=z c=yy"}, {"1 q z,3 q", base}, {"2 q,2 q/r,1 q/r/s z", "a/ a/b=x a/d/ c=yy q/ q/r/ q/r/s=z"},
	} {
		d := begin(t, base, api.MaxBytes, c[0])
		is(t, c[0], d, c[1], base, c[0], false, int64(len(changes(c[0]))))
	}
}

// P9.1: Do answers tree's error, EARG of another Op; nothing has changed then.
func TestDoNot(t *testing.T) {
	const base = "a/ a/b=x a/d/ c=yy"
	const long = "abcdefghijklmnopq"
	for _, c := range []struct {
		change string
		err    api.Errno
	}{
		{"1 A z", api.EPATH}, {"1", api.EPATH}, {"1 a/ z", api.EPATH}, {"1 " + long + " z", api.EPATH}, {"1 z/y z", api.ENONE}, {"1 c/y z", api.EKIND}, {"1 c/y/z z", api.ENONE}, {"1 a z", api.EKIND}, {"1 a/d z", api.EKIND}, {"1 q " + string(fill(2049)), api.EFULL},
		{"2 A", api.EPATH}, {"2", api.EPATH}, {"2 a", api.EEXIST}, {"2 c", api.EEXIST}, {"2 z/y", api.ENONE}, {"2 c/d", api.EKIND}, {"2 a/d/e/f/g", api.EPATH},
		{"3 A", api.EPATH}, {"3", api.EPATH}, {"3 z", api.ENONE}, {"3 c/d", api.ENONE}, {"3 a", api.EKIDS},
		{"4 A q", api.EPATH}, {"4 c A", api.EPATH}, {"4 c", api.EPATH}, {"4 z q", api.ENONE}, {"4 a q", api.EKIND}, {"4 a a", api.EKIND}, {"4 c a", api.EKIND}, {"4 c z/y", api.ENONE}, {"4 c a/b/c", api.EKIND}, {"4 z z", api.ENONE},
		{"0 q", api.EARG}, {"5 q", api.EARG}, {"6 q", api.EARG}, {"-1 q", api.EARG}, {"-4 c", api.EARG}, {"257 q", api.EARG}, {"4294967297 q", api.EARG}, {"-9223372036854775808 q", api.EARG}, {"9223372036854775807 q", api.EARG}, {"0 A", api.EARG}, {"5", api.EARG}, {"0 z/y", api.EARG},
	} {
		d := begin(t, base, api.MaxBytes, "2 e,1 e/f zz")
		if err := d.Do(changes(c.change)[0]); err != c.err {
			t.Errorf("Do of %.20s: %v, want %v", c.change, err, c.err)
		}
		is(t, c.change, d, base+" e/ e/f=zz", base, "2 e,1 e/f zz", false, 2)
	}
}

// P9.1: Do reads of a change what its Op needs, and no more.
func TestDoReads(t *testing.T) {
	for _, c := range []struct {
		change disk.Change
		want   string
	}{
		{disk.Change{Op: 1, Path: "b", To: "A", B: []byte("z")}, "a=x b=z d/"}, {disk.Change{Op: 1, Path: "a", To: "b"}, "a= d/"},
		{disk.Change{Op: 2, Path: "b", To: "A", B: fill(9999)}, "a=x b/ d/"},
		{disk.Change{Op: 3, Path: "d", To: "A", B: fill(9999)}, "a=x"},
		{disk.Change{Op: 4, Path: "a", To: "b", B: fill(9999)}, "b=x d/"},
	} {
		d := begin(t, "a=x d/", 16384, "")
		if err := d.Do(c.change); err != api.OK || tell(d.Now()) != c.want {
			t.Errorf("Do of %d %s %s: %v, %s, want %s", c.change.Op, c.change.Path, c.change.To, err, tell(d.Now()), c.want)
		}
	}
}

// P9.1: EFULL of what would have more Bytes than quota, and more than before.
func TestQuota(t *testing.T) {
	for _, c := range []struct {
		base   string
		quota  int
		change string
		err    api.Errno
	}{
		{"", 0, "1 a", 0}, {"", 0, "1 a x", api.EFULL}, {"", 0, "2 a", 0}, {"", 1, "1 a x", 0}, {"", 1, "1 a xx", api.EFULL}, {"", 5, "1 a xxxxx", 0}, {"", 5, "1 a xxxxxx", api.EFULL},
		{"a=xx b=yy", 5, "1 c z", 0}, {"a=xx b=yy", 5, "1 c zz", api.EFULL}, {"a=xx b=yy", 5, "1 b zzz", 0}, {"a=xx b=yy", 5, "1 b zzzz", api.EFULL}, {"a=xx b=yy", 4, "1 b zz", 0}, {"a=xx b=yy", 4, "1 b zzz", api.EFULL}, {"a=xx b=yy", 4, "1 c", 0}, {"a=xx b=yy", 4, "2 c", 0}, {"a=xx b=yy", 4, "4 a b", 0}, {"a=xx b=yy", 4, "4 a c", 0},
		// More than quota from the beginning: what makes it no more is done.
		{"a=xx b=yy", 3, "1 b zz", 0}, {"a=xx b=yy", 3, "1 b z", 0}, {"a=xx b=yy", 3, "1 b", 0}, {"a=xx b=yy", 1, "1 b", 0}, {"a=xx b=yy", 0, "1 b z", 0}, {"a=xx b=yy", 0, "1 b zz", 0}, {"a=xx b=yy", 3, "1 b zzz", api.EFULL}, {"a=xx b=yy", 0, "1 b zzz", api.EFULL}, {"a=xx b=yy", 0, "1 c z", api.EFULL}, {"a=xx b=yy", 0, "1 c", 0}, {"a=xx b=yy", 0, "2 c", 0}, {"a=xx b=yy", 0, "3 b", 0}, {"a=xx b=yy", 0, "4 a c", 0}, {"a=xx b=yy", 0, "4 a b", 0}, {"a=xx b=yy", 0, "4 a a", 0},
		// Tree's errors are ahead of it.
		{"a=xx d/ d/e/", 0, "1 A z", api.EPATH}, {"a=xx d/ d/e/", 0, "1 z/y z", api.ENONE}, {"a=xx d/ d/e/", 0, "1 a/y z", api.EKIND}, {"a=xx d/ d/e/", 0, "1 d z", api.EKIND}, {"a=xx d/ d/e/", 0, "3 d", api.EKIDS}, {"a=xx d/ d/e/", 0, "2 d", api.EEXIST}, {"a=xx d/ d/e/", 0, "7 b z", api.EARG},
	} {
		d := begin(t, c.base, c.quota, "")
		if err := d.Do(changes(c.change)[0]); err != c.err {
			t.Errorf("Do of %s in %s, %d: %v, want %v", c.change, c.base, c.quota, err, c.err)
		}
		if c.err != api.OK {
			is(t, c.change, d, c.base, c.base, "", false, 0)
		} else if d.Count() != 1 || tellChanges(d.Waits()) != c.change || tell(d.Lasts()) != c.base {
			t.Errorf("Do of %s in %s: %d, %s, %s", c.change, c.base, d.Count(), tellChanges(d.Waits()), tell(d.Lasts()))
		}
	}
}

// P9.1: what counts is what Now has, not what lasts; what goes makes room.
func TestQuotaNow(t *testing.T) {
	for _, c := range [][2]string{
		{"3 a,1 b xxxx", "b=xxxx"}, {"1 a,1 b xxxx", "a= b=xxxx"}, {"1 b xx,4 b a,1 c yy", "a=xx c=yy"}, {"1 b xx,3 b,1 c yy", "a=xx c=yy"},
	} {
		d := begin(t, "a=xx", 4, c[0])
		is(t, c[0], d, c[1], "a=xx", c[0], false, int64(len(changes(c[0]))))
		if err := d.Do(changes("1 z x")[0]); err != api.EFULL {
			t.Errorf("one more: %v", err)
		}
	}
	// Above quota once is no leave to grow: each Do is held against the last.
	d := begin(t, "a=xxxxxx", 2, "1 a xxxx")
	if a, b := d.Do(changes("1 a xxxxx")[0]), d.Do(changes("1 b x")[0]); a != api.EFULL || b != api.EFULL {
		t.Errorf("more again: %v, %v", a, b)
	}
	is(t, "held", d, "a=xxxx", "a=xxxxxx", "1 a xxxx", false, 1)
}

// P9.1: the greatest quota holds all that a tree may have, tree's own limits
// are EFULL too.
func TestQuotaGreatest(t *testing.T) {
	full := files(2048, 2048, 2048, 2048, 2048, 2048, 2048, 2047)
	for _, c := range []struct {
		quota, n int
		err      api.Errno
	}{{16384, 1, 0}, {16384, 2, api.EFULL}, {16383, 1, api.EFULL}, {16383, 0, 0}} {
		d, _ := disk.New(full, c.quota)
		if err := d.Do(disk.Change{Op: 1, Path: "z", B: fill(c.n)}); err != c.err {
			t.Errorf("Do of %d bytes more, quota %d: %v", c.n, c.quota, err)
		}
	}
	d, _ := disk.New(files(make([]int, 40)...), 16384)
	for _, c := range changes("1 z,2 z") {
		if err := d.Do(c); err != api.EFULL {
			t.Errorf("Do of %v, one more than may be: %v", c, err)
		}
	}
}

// P9.1: Sync: all that is Now lasts; nothing waits.
func TestSync(t *testing.T) {
	d := begin(t, "a=x", 16384, "1 b y,2 c")
	if err := d.Sync(); err != api.OK {
		t.Fatalf("Sync: %v", err)
	}
	is(t, "Sync", d, "a=x b=y c/", "a=x b=y c/", "", false, 3)
	if err := d.Sync(); err != api.OK {
		t.Fatalf("Sync again: %v", err)
	}
	is(t, "Sync again", d, "a=x b=y c/", "a=x b=y c/", "", false, 4)
	for i, c := range changes("3 a,4 b c/b") {
		if err := d.Do(c); err != api.OK || len(d.Waits()) != i+1 {
			t.Fatalf("Do: %v", err)
		}
	}
	is(t, "Do behind Sync", d, "c/ c/b=y", "a=x b=y c/", "3 a,4 b c/b", false, 6)
	d.Crash(nil, -1)
	is(t, "Crash behind Sync", d, "a=x b=y c/", "a=x b=y c/", "", true, 6)
}

// P9.1: without power Do, of whatever, and Sync are EDOWN, and change nothing.
func TestDown(t *testing.T) {
	d := begin(t, "a=x", 16384, "1 b y")
	d.Crash([]int{0}, -1)
	for _, c := range changes("1 c z,1 A z,2 c,3 a,3 z,4 a c,0 c,9 A") {
		if err := d.Do(c); err != api.EDOWN {
			t.Errorf("Do of %v without power: %v", c, err)
		}
	}
	if err := d.Sync(); err != api.EDOWN {
		t.Errorf("Sync without power: %v", err)
	}
	is(t, "without power", d, "a=x b=y", "a=x b=y", "", true, 1)
}

// P9.1: Count counts the Dos and Syncs that were OK, and nothing else.
func TestCount(t *testing.T) {
	d := begin(t, "", 3, "")
	for _, c := range []struct {
		do    func()
		count int64
	}{
		{func() {}, 0}, {func() { d.Do(changes("1 a x")[0]) }, 1}, {func() { d.Do(changes("1 a x")[0]) }, 2}, {func() { d.Do(changes("1 b xxx")[0]) }, 2}, {func() { d.Do(changes("3 z")[0]) }, 2}, {func() { d.Do(changes("8 z")[0]) }, 2},
		{func() { d.Sync() }, 3}, {func() { d.Sync() }, 4}, {func() { d.Now(); d.Lasts(); d.Waits(); d.Off(); d.On() }, 4}, {func() { d.Do(changes("4 a a")[0]) }, 5},
		{func() { d.Crash([]int{0}, -1) }, 5}, {func() { d.Sync() }, 5}, {func() { d.Do(changes("1 b x")[0]) }, 5}, {func() { d.On() }, 5}, {func() { d.Do(changes("1 b x")[0]) }, 6},
		{func() { d.Fuse(1, nil, 0) }, 6}, {func() { d.Do(changes("1 c x")[0]) }, 6}, {func() { d.On() }, 6}, {func() { d.Fuse(1, nil, 0) }, 6}, {func() { d.Sync() }, 6}, {func() { d.On(); d.Sync() }, 7},
	} {
		if c.do(); d.Count() != c.count {
			t.Errorf("Count: %d, want %d", d.Count(), c.count)
		}
	}
}

// P9.1: Waits are the changes since the last Sync, as they were handed in,
// with no end to how many.
func TestWaits(t *testing.T) {
	d := begin(t, "", 16384, "1 a x")
	if err := d.Sync(); err != api.OK || len(d.Waits()) != 0 {
		t.Fatalf("Sync: %v, %d", err, len(d.Waits()))
	}
	var want []disk.Change
	for i := range 3000 {
		c := disk.Change{Op: 1, Path: "a", B: []byte(strconv.Itoa(i))}
		if i%3 == 1 {
			c = disk.Change{Op: 4, Path: "a", To: "b"}
		} else if i%3 == 2 {
			c = disk.Change{Op: 3, Path: "b"}
		}
		if err := d.Do(c); err != api.OK {
			t.Fatalf("Do of %v: %v", c, err)
		}
		want = append(want, c)
	}
	if got := d.Waits(); tellChanges(got) != tellChanges(want) || !slices.EqualFunc(got, want, func(a, b disk.Change) bool { return a.Op == b.Op && a.Path == b.Path && a.To == b.To }) {
		t.Errorf("Waits: %d, %.99s", len(got), tellChanges(got))
	}
}
