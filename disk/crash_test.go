package disk_test

import (
	"slices"
	"strings"
	"testing"

	"tallyman/api"
	"tallyman/disk"
)

// P9.1: of those that wait the ones in keep last, each as tree's call.
func TestCrash(t *testing.T) {
	for _, c := range []struct {
		base, some string
		keep       []int
		want       string
	}{
		{"", "1 a x,1 b y,1 c z", nil, ""}, {"", "1 a x,1 b y,1 c z", []int{0}, "a=x"}, {"", "1 a x,1 b y,1 c z", []int{1}, "b=y"}, {"", "1 a x,1 b y,1 c z", []int{2}, "c=z"}, {"", "1 a x,1 b y,1 c z", []int{0, 2}, "a=x c=z"}, {"", "1 a x,1 b y,1 c z", []int{0, 1, 2}, "a=x b=y c=z"},
		{"a=x", "1 a y", nil, "a=x"}, {"a=x", "1 a y", []int{0}, "a=y"}, {"a=x d/", "3 a,3 d", nil, "a=x d/"}, {"a=x d/", "3 a,3 d", []int{0}, "d/"}, {"a=x d/", "3 a,3 d", []int{1}, "a=x"}, {"a=x", "4 a b", nil, "a=x"}, {"a=x", "4 a b", []int{0}, "b=x"}, {"", "2 a,2 b", []int{1}, "b/"},
		// In their order, not in keep's; and each once.
		{"", "1 a x,1 a y,1 a z", []int{2, 1, 0}, "a=z"}, {"", "1 a x,1 a y,1 a z", []int{1, 0}, "a=y"}, {"", "2 a,1 a/b x,4 a/b c", []int{2, 1, 0}, "a/ c=x"}, {"", "1 a x,4 a b,1 a y,4 a c", []int{3, 1, 2, 0}, "b=x c=y"}, {"", "1 a x,1 a y", []int{0, 1, 0}, "a=y"}, {"a=x b=y", "4 a b,1 a z", []int{0, 1, 0}, "a=z b=x"}, {"a=x", "4 a b,1 a y,4 a c", []int{0, 0, 2}, "b=x"},
		// Other places count for nothing.
		{"", "1 a x,1 b y", []int{-1, 2, 3, -9, 1 << 62, -1 << 63, 1<<63 - 1}, ""}, {"", "1 a x,1 b y", []int{-1, 1, 2}, "b=y"}, {"", "1 a x,1 b y", []int{1 << 32, 1<<32 + 1, -2, -1}, ""}, {"a=x", "", []int{0, 1}, "a=x"},
		// One that is refused does not count.
		{"", "2 a,1 a/b x", []int{1}, ""}, {"", "2 a,1 a/b x,1 c y", []int{1, 2}, "c=y"}, {"", "1 a x,4 a b", []int{1}, ""}, {"a=x", "1 b y,4 b a", []int{1}, "a=x"}, {"a/ a/b=x", "3 a/b,3 a", []int{1}, "a/ a/b=x"}, {"a=x", "3 a,2 a", []int{1}, "a=x"}, {"a=x", "3 a,2 a,1 a/b y", []int{1, 2}, "a=x"}, {"a/", "3 a,1 a x", []int{1}, "a/"}, {"a=x", "1 b y,3 b,2 b", []int{0, 2}, "a=x b=y"}, {"a=x", "3 a,1 a y,3 a", []int{0, 2}, ""},
		{".work/", "1 .work/t1 new,4 .work/t1 a", []int{1}, ".work/"}, {".work/ a=old", "1 .work/t1 new,4 .work/t1 a", []int{0}, ".work/ .work/t1=new a=old"}, {".work/ a=old", "1 .work/t1 new,4 .work/t1 a", []int{0, 1}, ".work/ a=new"},
	} {
		d := begin(t, c.base, api.MaxBytes, c.some)
		keep := slices.Clone(c.keep)
		d.Crash(keep, -1)
		is(t, c.some, d, c.want, c.want, "", true, int64(len(changes(c.some))))
		if !slices.Equal(keep, c.keep) {
			t.Errorf("Crash changes keep: %d", keep)
		}
	}
}

// P9.1: a Put that lasts lasts with its first torn bytes; all, if torn is
// below 0, or more than there are; other changes are not torn.
func TestTorn(t *testing.T) {
	for _, c := range []struct {
		torn int
		want string
	}{
		{0, "a= b= d/ f=xyz"}, {1, "a=h b=w d/ f=xyz"}, {2, "a=he b=wo d/ f=xyz"}, {3, "a=hel b=wo d/ f=xyz"}, {4, "a=hell b=wo d/ f=xyz"}, {5, "a=hello b=wo d/ f=xyz"}, {6, "a=hello b=wo d/ f=xyz"}, {2048, "a=hello b=wo d/ f=xyz"}, {1<<63 - 1, "a=hello b=wo d/ f=xyz"}, {1 << 32, "a=hello b=wo d/ f=xyz"},
		{-1, "a=hello b=wo d/ f=xyz"}, {-2, "a=hello b=wo d/ f=xyz"}, {-1 << 63, "a=hello b=wo d/ f=xyz"},
	} {
		d := begin(t, "b=old e=xyz", api.MaxBytes, "1 a hello,1 c gone,1 b wo,2 d,4 e f")
		d.Crash([]int{0, 2, 3, 4}, c.torn)
		is(t, "torn", d, c.want, c.want, "", true, 5)
		d = begin(t, "b=old e=xyz", api.MaxBytes, "1 a hello,1 c gone,1 b wo,2 d,4 e f")
		d.Fuse(1, []int{0, 2, 3, 4}, c.torn)
		if err := d.Sync(); err != api.EDOWN {
			t.Errorf("Sync with a fuse: %v", err)
		}
		is(t, "torn by a fuse", d, c.want, c.want, "", true, 5)
	}
	// What is torn is moved as it is.
	d := begin(t, "", api.MaxBytes, "1 a hello,4 a b,1 c bye")
	d.Crash([]int{0, 1, 2}, 2)
	is(t, "torn, and moved", d, "b=he c=by", "b=he c=by", "", true, 3)
}

// P9.1: the quota is not asked of what lasts: it may then be more.
func TestCrashQuota(t *testing.T) {
	d := begin(t, "a=xxxx", 4, "3 a,1 b yyyy,3 b,1 c zzzz")
	d.Crash([]int{1, 3}, -1)
	is(t, "more than quota", d, "a=xxxx b=yyyy c=zzzz", "a=xxxx b=yyyy c=zzzz", "", true, 4)
	d.On()
	for _, c := range []struct {
		change string
		err    api.Errno
	}{{"1 d x", api.EFULL}, {"1 a xxxxx", api.EFULL}, {"1 d", 0}, {"1 a xxx", 0}, {"1 d x", api.EFULL}, {"3 c", 0}, {"3 b", 0}, {"1 d x", 0}, {"1 d xx", api.EFULL}} {
		if err := d.Do(changes(c.change)[0]); err != c.err {
			t.Errorf("Do of %s: %v, want %v", c.change, err, c.err)
		}
	}
}

// P9.1: tree's limits are asked of what lasts.
func TestCrashFull(t *testing.T) {
	d, _ := disk.New(files(2048, 2048, 2048, 2048, 2048, 2048, 2048, 2048), 16384)
	for _, c := range []disk.Change{{Op: 1, Path: "f00"}, {Op: 1, Path: "g", B: fill(2048)}, {Op: 1, Path: "f01", B: fill(2040)}, {Op: 1, Path: "h", B: fill(8)}} {
		if err := d.Do(c); err != api.OK {
			t.Fatalf("Do: %v", err)
		}
	}
	d.Crash([]int{1, 2, 3}, -1)
	if got := d.Now(); len(got.L) != 9 || got.L[8].Path != "h" || len(got.L[8].B) != 8 || len(got.L[1].B) != 2040 || len(got.L[0].B) != 2048 {
		t.Errorf("Crash of a full one: %d, %s", len(got.L), got.L[8].Path)
	}
	d, _ = disk.New(files(make([]int, 40)...), 16384)
	for _, c := range changes("3 f00,2 g,3 f01,2 h") {
		if err := d.Do(c); err != api.OK {
			t.Fatalf("Do of %v: %v", c, err)
		}
	}
	d.Crash([]int{1, 2, 3}, -1)
	if got := d.Now(); len(got.L) != 40 || got.L[0].Path != "f00" || got.L[39].Path != "h" {
		t.Errorf("Crash of forty: %d, %s", len(got.L), got.L[39].Path)
	}
}

// P9.1: without power a Crash is nothing.
func TestCrashDown(t *testing.T) {
	d := begin(t, "a=x", api.MaxBytes, "1 b y")
	d.Crash(nil, -1)
	d.Crash([]int{0}, -1)
	is(t, "Crash again", d, "a=x", "a=x", "", true, 1)
	d.On()
	is(t, "On", d, "a=x", "a=x", "", false, 1)
}

// P9.1: with power again it goes on from what lasts; On with power is nothing.
func TestOn(t *testing.T) {
	d := begin(t, "a=x", api.MaxBytes, "1 b y,1 c z")
	d.On()
	is(t, "On with power", d, "a=x b=y c=z", "a=x", "1 b y,1 c z", false, 2)
	d.Crash([]int{1}, -1)
	d.On()
	is(t, "On", d, "a=x c=z", "a=x c=z", "", false, 2)
	if a, b, c := d.Do(changes("3 b")[0]), d.Do(changes("4 c b")[0]), d.Do(changes("1 d w")[0]); a != api.ENONE || b != api.OK || c != api.OK {
		t.Errorf("Do behind On: %v, %v, %v", a, b, c)
	}
	is(t, "Do behind On", d, "a=x b=z d=w", "a=x c=z", "4 c b,1 d w", false, 4)
	d.Crash([]int{1}, -1)
	is(t, "Crash again", d, "a=x c=z d=w", "a=x c=z d=w", "", true, 4)
	d.On()
	if err := d.Sync(); err != api.OK {
		t.Errorf("Sync behind On: %v", err)
	}
	is(t, "Sync behind On", d, "a=x c=z d=w", "a=x c=z d=w", "", false, 5)
}

// do does steps, each a change or "s" for a Sync, and tells which of them were
// EDOWN, as a text of d and o (others: x).
func do(d *disk.Disk, steps string) string {
	var out []byte
	for one := range strings.SplitSeq(steps, ",") {
		err := api.OK
		if one == "s" {
			err = d.Sync()
		} else {
			err = d.Do(changes(one)[0])
		}
		switch err {
		case api.OK:
			out = append(out, 'o')
		case api.EDOWN:
			out = append(out, 'd')
		default:
			out = append(out, 'x')
		}
	}
	return string(out)
}

// P9.1: Fuse crashes ahead of the n-th Do or Sync from now on, in its place.
func TestFuse(t *testing.T) {
	for _, c := range []struct {
		n                  int
		keep               []int
		steps, want, state string
	}{
		{1, nil, "1 b y", "d", "a=x"}, {1, []int{0}, "1 b y", "d", "a=x w=0"}, {1, []int{1}, "1 b y", "d", "a=x"}, {1, nil, "s", "d", "a=x"}, {1, []int{0}, "s", "d", "a=x w=0"},
		{2, []int{0, 1}, "1 b y,1 c z,1 d w", "odd", "a=x b=y w=0"}, {2, []int{1}, "1 b y,s,s", "odd", "a=x b=y"}, {2, nil, "s,1 b y", "od", "a=x w=0"}, {2, []int{0}, "s,s,s", "odd", "a=x w=0"},
		{3, []int{2, 1, 0}, "1 b y,1 b z,1 c q", "ood", "a=x b=z w=0"}, {3, []int{0}, "1 b y,s,1 c z", "ood", "a=x b=y w=0"}, {3, []int{0}, "s,1 b y,1 c z", "ood", "a=x b=y w=0"},
		// Refused ones count.
		{2, []int{1}, "1 A y,1 b y", "xd", "a=x"}, {3, []int{1}, "1 A y,7 b,1 b y", "xxd", "a=x"}, {3, []int{0, 1}, "3 z,1 b y,s", "xod", "a=x b=y w=0"}, {1, []int{0}, "1 A y", "d", "a=x w=0"}, {1, []int{0}, "9 z", "d", "a=x w=0"}, {1, []int{0}, "3 z", "d", "a=x w=0"},
	} {
		d := begin(t, "a=x", 9, "1 w 0")
		d.Fuse(c.n, c.keep, -1)
		if got := do(d, c.steps); got != c.want {
			t.Errorf("Fuse(%d), %s: %s, want %s", c.n, c.steps, got, c.want)
		}
		is(t, c.steps, d, c.state, c.state, "", true, 1+int64(strings.Count(c.want, "o")))
		// It is out then: with power again nothing happens.
		d.On()
		if got := do(d, "s,s,s,s,s,s"); got != "oooooo" {
			t.Errorf("behind a fuse: %s", got)
		}
	}
}

// P9.1: until then a fuse is not to be seen; what only asks does not count.
func TestFuseWaits(t *testing.T) {
	d := begin(t, "a=x", 9, "1 b y")
	d.Fuse(3, []int{0, 1}, -1)
	for range 9 {
		d.On()
		is(t, "with a fuse", d, "a=x b=y", "a=x", "1 b y", false, 1)
	}
	if got := do(d, "1 c z,1 zz/z z"); got != "ox" {
		t.Errorf("with a fuse: %s", got)
	}
	is(t, "with a fuse", d, "a=x b=y c=z", "a=x", "1 b y,1 c z", false, 2)
	if err := d.Sync(); err != api.EDOWN {
		t.Errorf("Sync with a fuse: %v", err)
	}
	is(t, "behind it", d, "a=x b=y c=z", "a=x b=y c=z", "", true, 2)
}

// P9.1: n below 1: none; a later Fuse in place of an elder one, none too.
func TestFuseAgain(t *testing.T) {
	const least = -1 << 63
	for _, c := range []struct {
		fuses []int
		want  string
	}{
		{[]int{0}, "oooo"}, {[]int{-1}, "oooo"}, {[]int{least}, "oooo"}, {[]int{1<<63 - 1}, "oooo"}, {[]int{5}, "oooo"}, {[]int{4}, "oood"},
		{[]int{1, 3}, "oodd"}, {[]int{3, 1}, "dddd"}, {[]int{2, 2}, "oddd"}, {[]int{1, 0}, "oooo"}, {[]int{2, -1}, "oooo"}, {[]int{2, least}, "oooo"}, {[]int{0, 2}, "oddd"}, {[]int{1, 2, 3}, "oodd"}, {[]int{3, 0, 2}, "oddd"},
	} {
		d := begin(t, "", 9, "")
		for _, n := range c.fuses {
			d.Fuse(n, nil, -1)
		}
		if got := do(d, "s,s,s,s"); got != c.want {
			t.Errorf("Fuses %d: %s, want %s", c.fuses, got, c.want)
		}
	}
	// From now on: what went by ahead of it does not count; keep and torn are
	// the later one's.
	d := begin(t, "", 9, "1 a xyz,1 b xyz")
	d.Fuse(2, []int{0}, 1)
	if got := do(d, "1 c xyz"); got != "o" {
		t.Errorf("ahead of a later fuse: %s", got)
	}
	d.Fuse(2, []int{1, 3}, 2)
	if got := do(d, "1 c,s"); got != "od" {
		t.Errorf("with a later fuse: %s", got)
	}
	is(t, "behind a later fuse", d, "b=xy c=", "b=xy c=", "", true, 4)
}

// P9.1: a Crash takes a fuse out; without power a Fuse is nothing.
func TestFuseOut(t *testing.T) {
	d := begin(t, "a=x", 9, "1 b y")
	d.Fuse(1, []int{0}, -1)
	d.Crash(nil, -1)
	is(t, "Crash ahead of a fuse", d, "a=x", "a=x", "", true, 1)
	d.On()
	if got := do(d, "1 b y,s,s"); got != "ooo" {
		t.Errorf("a fuse that a Crash took out: %s", got)
	}
	d.Crash(nil, -1)
	d.Fuse(1, nil, -1)
	d.Fuse(3, nil, -1)
	is(t, "Fuse without power", d, "a=x b=y", "a=x b=y", "", true, 4)
	if got := do(d, "s,1 c z"); got != "dd" {
		t.Errorf("without power: %s", got)
	}
	d.On()
	if got := do(d, "s,s,s,s"); got != "oooo" {
		t.Errorf("a Fuse without power: %s", got)
	}
}

// P9.1: the places in a fuse's keep are those of what waits when it comes.
func TestFuseKeep(t *testing.T) {
	d := begin(t, "", 9, "1 a x,1 b y")
	d.Fuse(4, []int{1}, -1)
	if got := do(d, "s,1 c z,1 d w,s"); got != "oood" {
		t.Errorf("steps: %s", got)
	}
	is(t, "behind", d, "a=x b=y d=w", "a=x b=y d=w", "", true, 5)
}
