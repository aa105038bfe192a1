package path_test

import (
	"strings"
	"testing"

	"tallyman/api"
	"tallyman/path"
)

// letters are all bytes that a name may have.
const letters = "abcdefghijklmnopqrstuvwxyz0123456789.-_"

// wantGoodName tells by the document's words whether a name may be.
func wantGoodName(name string) bool {
	for i := range len(name) {
		if strings.IndexByte(letters, name[i]) < 0 {
			return false
		}
	}
	return 1 <= len(name) && len(name) <= 16 && name != "." && name != ".."
}

// wantGood tells Good's answer by the document's words.
func wantGood(p string) bool {
	names := strings.Split(p, "/")
	for _, name := range names {
		if !wantGoodName(name) {
			return false
		}
	}
	return len(names) <= 4
}

// all makes each text of at most n of the bytes of few.
func all(few string, n int) []string {
	l := []string{""}
	from := 0
	for range n {
		to := len(l)
		for _, t := range l[from:to] {
			for i := range len(few) {
				l = append(l, t+few[i:i+1])
			}
		}
		from = to
	}
	return l
}

// long makes a name of n bytes.
func long(n int) string { return strings.Repeat("n", n) }

// good are paths that may be, by their names.
func good() [][]string {
	l := [][]string{
		{"a"}, {"a", "b"}, {"a", "b", "c"}, {"a", "b", "c", "d"},
		{"z"}, {"0"}, {"9"}, {"-"}, {"_"}, {".a"}, {"a."}, {"..."}, {"...."}, {".-"}, {"._"}, {"..a"}, {"a.."}, {".a."},
		{".work"}, {".work", "a"}, {".work", "a", "b", "c"}, {"a", ".work"}, {".works"}, {".work", ".work"}, {".wor"}, {"work"},
		{"a", "a"}, {"a", "...", "a"}, {"-", "-", "-", "-"}, {"0", "1", "2", "3"}, {"a", "a", "a", "a"},
		{"abcdefghijklmnop"}, {"qrstuvwxyz012345"}, {"6789.-_"},
	}
	for n := 1; n <= api.MaxName; n++ {
		l = append(l, []string{long(n)}, []string{long(n), "a"}, []string{"a", long(n)}, []string{"a", "b", "c", long(n)})
	}
	return append(l, []string{long(16), long(16), long(16), long(16)})
}

// bad are paths that may not be.
func bad() []string {
	l := []string{
		"", "/", "//", "///", "////", "/a", "a/", "/a/", "a//b", "a/b/", "/a/b", "a/b//c", "a/b/c/d/", "/a/b/c/d", "//a", "a//",
		".", "..", "a/.", "a/..", "./a", "../a", "a/./b", "a/../b", "a/b/c/.", "a/b/c/..", "./.", "../..", ".work/.", ".work/..",
		"a/b/c/d/e", "a/b/c/d/e/f", "a/b/c/d/.", "a/a/a/a/a", ".work/a/b/c/d", ".work/", ".work//a", "/.work",
		"A", "Z", "aB", "a/B", "A/b", "Work", ".WORK", ".Work/a", ".work/A",
		" ", "a b", " a", "a ", "a\n", "a\x00", "\x00", "a/\x00/b", "a\\b", "a:b", "a,b", "a|b", "a*", "a?", "~", "a~", "a+b", "a@b", "`", "{", "[", "^",
		"é", "ä/b", "a/ß", "\xff", "a\x80", "ａ", "٣", "ǆ", "a\u2215b", "a\u0301",
	}
	for _, n := range []int{17, 18, 32, 33, 64, 67, 68, 255, 256, 257, 272, 65537, 1 << 20} {
		l = append(l, long(n), long(n)+"/a", "a/"+long(n), "a/"+long(n)+"/b", "a/b/c/"+long(n))
	}
	for _, n := range []int{5, 6, 8, 9, 20, 256, 257, 260, 65540} {
		l = append(l, strings.Repeat("a/", n-1)+"a")
	}
	return append(l, strings.Repeat("/", 1<<20), strings.Repeat("a/", 1<<20), strings.Repeat(".", 17))
}

// P7.1: what may be, the edges too.
func TestGood(t *testing.T) {
	for _, names := range good() {
		if p := strings.Join(names, "/"); !path.Good(p) {
			t.Errorf("Good of %s: false", p)
		}
	}
	for _, p := range bad() {
		if path.Good(p) {
			t.Errorf("Good of %.40q of %d bytes: true", p, len(p))
		}
	}
}

// P7.1: each byte, alone, first, in the middle, last, in each of four names.
func TestGoodBytes(t *testing.T) {
	for c := range 256 {
		s := string([]byte{byte(c)})
		for _, p := range []string{s, s + "b", "a" + s + "b", "a" + s, "a/" + s, "a/" + s + "/b", s + "/a/b/c", "a/b/c/" + s, "a/b/x" + s + "x/c", s + s, s + s + s} {
			if got := path.Good(p); got != wantGood(p) {
				t.Errorf("Good of %q: %v", p, got)
			}
		}
	}
}

// P7.1: each text of few bytes, told by the document's words.
func TestGoodAll(t *testing.T) {
	for _, p := range all("a./A", 8) {
		if got := path.Good(p); got != wantGood(p) {
			t.Fatalf("Good of %q: %v", p, got)
		}
	}
}

// P7.1: the limits are api's: how long a name is, how many there are, and
// both at once.
func TestGoodLimits(t *testing.T) {
	for n := range 40 {
		if got := path.Good(long(n)); got != (1 <= n && n <= api.MaxName) {
			t.Errorf("Good of a name of %d bytes: %v", n, got)
		}
		p := strings.Repeat(long(api.MaxName)+"/", n) + "a"
		if got := path.Good(p); got != (n+1 <= api.MaxDepth) {
			t.Errorf("Good of %d names: %v", n+1, got)
		}
	}
}

// P7.1: Work is a name, and Good.
func TestWork(t *testing.T) {
	if path.Work != ".work" || !path.Good(path.Work) {
		t.Errorf("Work: %q", path.Work)
	}
}
