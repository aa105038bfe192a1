package disk_test

import (
	"bytes"
	"testing"

	"tallyman/api"
	"tallyman/disk"
	"tallyman/tree"
)

// spoil writes over all that a tree's lists have room for.
func spoil(t tree.Tree) {
	l := t.L[:cap(t.L)]
	for i := range l {
		spoilBytes(l[i].B)
		l[i] = tree.Entry{Path: "spoilt"}
	}
}

// spoilBytes writes over all that some bytes have room for.
func spoilBytes(b []byte) {
	b = b[:cap(b)]
	for i := range b {
		b[i] = '!'
	}
}

// R4: what New is handed is not kept, nor changed, spare room included.
func TestNewKeepsNot(t *testing.T) {
	whole := of("a/ a/b=hello c=bye z=spare")
	part := tree.Tree{L: whole.L[:3]}
	part.L[1].B = append(part.L[1].B, "room"...)[:5]
	d, err := disk.New(part, 16384)
	if err != api.OK {
		t.Fatalf("New: %v", err)
	}
	for _, c := range changes("1 a/b other,1 d new,3 c,2 e,4 d c") {
		d.Do(c)
	}
	d.Sync()
	d.Do(changes("1 a/b torn")[0])
	d.Crash([]int{0}, 2)
	if got := tell(whole); got != "a/ a/b=hello c=bye z=spare" || string(part.L[1].B[:9]) != "helloroom" {
		t.Errorf("New's tree is changed: %s, %s", got, part.L[1].B[:9])
	}
	spoil(part)
	is(t, "with New's tree spoilt", d, "a/ a/b=to c=new e/", "a/ a/b=to c=new e/", "", true, 7)
	one := of("a=hello")
	d, _ = disk.New(one, 5)
	spoil(one)
	is(t, "with New's tree spoilt", d, "a=hello", "a=hello", "", false, 0)
}

// R4: a change that Do is handed is not kept, nor changed.
func TestDoKeepsNot(t *testing.T) {
	d := begin(t, "", 16384, "")
	b := []byte("hello, and spare room")
	if err := d.Do(disk.Change{Op: 1, Path: "a", B: b[:5]}); err != api.OK || string(b) != "hello, and spare room" {
		t.Fatalf("Do: %v, %s", err, b)
	}
	spoilBytes(b)
	is(t, "with Do's bytes spoilt", d, "a=hello", "", "1 a hello", false, 1)
	d.Crash([]int{0}, 4)
	is(t, "with Do's bytes spoilt", d, "a=hell", "a=hell", "", true, 1)
}

// R4: a keep that Crash and Fuse are handed is not kept, nor changed.
func TestFuseKeepsNot(t *testing.T) {
	d := begin(t, "", 16384, "1 a x,1 b y")
	keep := []int{1, 0, 0}
	d.Fuse(1, keep[:1], -1)
	keep[0] = 0
	d.Sync()
	is(t, "with Fuse's keep changed", d, "b=y", "b=y", "", true, 2)
	if keep[1] != 0 || keep[2] != 0 {
		t.Errorf("Fuse changes keep: %d", keep)
	}
}

// R4: what Now, Lasts, Waits answer is new memory each time, spare room too.
func TestAnswersNew(t *testing.T) {
	const waits = "1 a hello,1 c new,4 c d,2 e,3 b"
	d := begin(t, "a=old b=bye f/ f/g=stays", 16384, waits)
	for range 3 {
		is(t, "with answers spoilt", d, "a=hello d=new e/ f/ f/g=stays", "a=old b=bye f/ f/g=stays", waits, false, 5)
		spoil(d.Now())
		spoil(d.Lasts())
		l := d.Waits()
		l = l[:cap(l)]
		for i := range l {
			spoilBytes(l[i].B)
			l[i] = disk.Change{Op: 9, Path: "spoilt"}
		}
	}
	if err := d.Sync(); err != api.OK {
		t.Fatalf("Sync: %v", err)
	}
	spoil(d.Now())
	is(t, "Now spoilt behind Sync", d, "a=hello d=new e/ f/ f/g=stays", "a=hello d=new e/ f/ f/g=stays", "", false, 6)
	spoil(d.Lasts())
	d.Crash(nil, -1)
	is(t, "Lasts spoilt", d, "a=hello d=new e/ f/ f/g=stays", "a=hello d=new e/ f/ f/g=stays", "", true, 6)
}

// R4: no two lists of one answer share any, spare room too.
func TestAnswersApart(t *testing.T) {
	d := begin(t, "", 16384, "1 a xxx,4 a b,1 a xxx,1 c xxx")
	l := d.Waits()
	for i := range l {
		for j := range l {
			is := l[j].B[:cap(l[j].B)]
			was := bytes.Clone(is)
			spoilBytes(l[i].B)
			if i != j && !bytes.Equal(is, was) {
				t.Errorf("Waits: number %d and number %d share", i, j)
			}
			copy(l[i].B, "xxx")
		}
	}
	for name, got := range map[string]tree.Tree{"Now": d.Now(), "Lasts": d.Lasts()} {
		for i := range got.L {
			spoilBytes(got.L[i].B)
			for j := range got.L {
				if i < j && string(got.L[j].B) != "xxx" {
					t.Errorf("%s: number %d and number %d share", name, i, j)
				}
			}
		}
	}
}

// R3, R5: what was told ahead stays so, whatever comes to the disk.
func TestAnswersStay(t *testing.T) {
	d := begin(t, "a=x b=y", 16384, "1 a z,4 b c")
	now, lasts, waits := d.Now(), d.Lasts(), d.Waits()
	for _, c := range changes("1 a q,1 c,3 a,2 d,2 e") {
		d.Do(c)
	}
	d.Sync()
	d.Do(changes("1 a r")[0])
	d.Crash([]int{0}, 0)
	if tell(now) != "a=z c=y" || tell(lasts) != "a=x b=y" || tellChanges(waits) != "1 a z,4 b c" {
		t.Errorf("told ahead: %s; %s; %s", tell(now), tell(lasts), tellChanges(waits))
	}
}

// R5: two disks of one tree have nothing in common.
func TestTwoDisks(t *testing.T) {
	base := of("a=x b=y")
	one, _ := disk.New(base, 9)
	two, _ := disk.New(base, 2)
	one.Fuse(2, nil, -1)
	if a, b := one.Do(changes("1 a zz")[0]), two.Do(changes("1 a zz")[0]); a != api.OK || b != api.EFULL {
		t.Errorf("Do: %v, %v", a, b)
	}
	if a, b := one.Sync(), two.Sync(); a != api.EDOWN || b != api.OK {
		t.Errorf("Sync: %v, %v", a, b)
	}
	is(t, "the one", one, "a=x b=y", "a=x b=y", "", true, 1)
	is(t, "the other", two, "a=x b=y", "a=x b=y", "", false, 1)
}
