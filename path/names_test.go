package path_test

import (
	"strings"
	"testing"

	"tallyman/path"
)

// some has texts of all kinds, Good and not.
func some() []string {
	l := append(bad(), all("ab/.", 5)...)
	for _, names := range good() {
		l = append(l, strings.Join(names, "/"))
	}
	return l
}

// P7.1, the example: Up of a/b is a; and of others.
func TestUp(t *testing.T) {
	for _, names := range good() {
		p, want := strings.Join(names, "/"), strings.Join(names[:len(names)-1], "/")
		if got, ok := path.Up(p); got != want || !ok {
			t.Errorf("Up of %s: %q, %v, want %q", p, got, ok, want)
		}
	}
	for _, c := range [][2]string{{"a/b", "a"}, {"a", ""}, {"a/b/c/d", "a/b/c"}, {".work/a", ".work"}, {".work", ""}} {
		if got, ok := path.Up(c[0]); got != c[1] || !ok {
			t.Errorf("Up of %s: %q, %v, want %q", c[0], got, ok, c[1])
		}
	}
}

// P7.1: Base is the last name.
func TestBase(t *testing.T) {
	for _, names := range good() {
		p := strings.Join(names, "/")
		if got := path.Base(p); got != names[len(names)-1] {
			t.Errorf("Base of %s: %q", p, got)
		}
	}
	for _, c := range [][2]string{{"a", "a"}, {"a/b", "b"}, {"a/b/c/d", "d"}, {"ab/a.b", "a.b"}} {
		if got := path.Base(c[0]); got != c[1] {
			t.Errorf("Base of %s: %q, want %q", c[0], got, c[1])
		}
	}
}

// P7.1: Depth is how many names there are.
func TestDepth(t *testing.T) {
	for _, names := range good() {
		p := strings.Join(names, "/")
		if got := path.Depth(p); got != len(names) {
			t.Errorf("Depth of %s: %d", p, got)
		}
	}
}

// P7.1, R2: of what is not Good: empty, false, 0.
func TestNotGood(t *testing.T) {
	for _, p := range bad() {
		up, ok := path.Up(p)
		if up != "" || ok || path.Base(p) != "" || path.Depth(p) != 0 || path.Inside(p) {
			t.Errorf("of %.40q of %d bytes: %q, %v, %q, %d, %v", p, len(p), up, ok, path.Base(p), path.Depth(p), path.Inside(p))
		}
	}
	for _, p := range all("aA/.", 7) {
		up, ok := path.Up(p)
		if is := wantGood(p); ok != is || (path.Depth(p) > 0) != is || (path.Base(p) != "") != is || !is && up != "" {
			t.Fatalf("of %q: %q, %v, %q, %d", p, up, ok, path.Base(p), path.Depth(p))
		}
	}
}

// P7.1: Join of p, or nothing, and a name.
func TestJoin(t *testing.T) {
	for _, names := range good() {
		p := strings.Join(names, "/")
		up, base := strings.Join(names[:len(names)-1], "/"), names[len(names)-1]
		if got, ok := path.Join(up, base); got != p || !ok {
			t.Errorf("Join of %q, %s: %q, %v", up, base, got, ok)
		}
	}
	for _, c := range [][3]string{{"", "a", "a"}, {"a", "b", "a/b"}, {"a/b", "c", "a/b/c"}, {"a/b/c", "d", "a/b/c/d"}, {"", ".work", ".work"}, {".work", "x", ".work/x"}} {
		if got, ok := path.Join(c[0], c[1]); got != c[2] || !ok {
			t.Errorf("Join of %q, %s: %q, %v, want %s", c[0], c[1], got, ok, c[2])
		}
	}
}

// P7.1, R2: false, with nothing, if that is not Good, or the name has a /.
func TestJoinNot(t *testing.T) {
	for _, c := range [][2]string{
		{"", ""}, {"a", ""}, {"a/b", ""}, {"", "/"}, {"", "a/b"}, {"a", "b/c"}, {"a", "/"}, {"a", "/b"}, {"a", "b/"}, {"", "/a"}, {"", "a/"}, {"", "a/b/c/d"},
		{"a/b/c/d", "e"}, {"a/b/c", "d/e"}, {"a/b/c/d", ""}, {"/", "a"}, {"a/", "b"}, {"/a", "b"}, {"a//b", "c"}, {"/", ""}, {"//", "a"},
		{"", "."}, {"", ".."}, {"a", "."}, {"a", ".."}, {".", "a"}, {"..", "a"}, {"A", "b"}, {"a", "B"}, {"", "A"}, {"a b", "c"}, {"a", "b c"}, {"a", "é"},
		{"", long(17)}, {"a", long(17)}, {long(17), "a"}, {"a", "\x00"}, {"\x00", "a"},
	} {
		if got, ok := path.Join(c[0], c[1]); got != "" || ok {
			t.Errorf("Join of %q, %q: %q, %v", c[0], c[1], got, ok)
		}
	}
	for _, p := range bad() {
		if got, ok := path.Join("", p); got != "" || ok {
			t.Errorf("Join of nothing, %.40q: %.40q, %v", p, got, ok)
		}
		if got, ok := path.Join("a", p); got != "" || ok {
			t.Errorf("Join of a, %.40q: %.40q, %v", p, got, ok)
		}
		if got, ok := path.Join(p, "a"); p != "" && (got != "" || ok) {
			t.Errorf("Join of %.40q, a: %.40q, %v", p, got, ok)
		}
	}
}

// P7.1: Join by the document's words, of all short texts.
func TestJoinAll(t *testing.T) {
	for _, p := range all("aA/.", 4) {
		for _, name := range all("aA/.", 3) {
			want := strings.TrimPrefix(p+"/", "/") + name
			if p != "" {
				want = p + "/" + name
			}
			is := wantGood(want) && !strings.Contains(name, "/")
			if !is {
				want = ""
			}
			if got, ok := path.Join(p, name); got != want || ok != is {
				t.Fatalf("Join of %q, %q: %q, %v, want %q", p, name, got, ok, want)
			}
		}
	}
}

// P7.1: Join puts together what Up and Base take apart.
func TestJoinUpBase(t *testing.T) {
	for _, p := range some() {
		up, ok := path.Up(p)
		if !ok {
			continue
		}
		if got, ok := path.Join(up, path.Base(p)); got != p || !ok {
			t.Errorf("Join of %q, %q: %q, %v", up, path.Base(p), got, ok)
		}
	}
}

// wantUnder tells Under's answer by the document's words.
func wantUnder(p, dir string) bool {
	return wantGood(p) && wantGood(dir) && strings.HasPrefix(p, dir+"/")
}

// P7.1: what is Under which, and what is not.
func TestUnder(t *testing.T) {
	for _, c := range []struct {
		p, dir string
		want   bool
	}{
		{"a/b", "a", true}, {"a/b/c", "a", true}, {"a/b/c", "a/b", true}, {"a/b/c/d", "a/b/c", true}, {"a/b/c/d", "a", true}, {"a/a", "a", true}, {".work/a", ".work", true},
		{"a", "a", false}, {"a/b", "a/b", false}, {"a", "a/b", false}, {"a", "b", false}, {"b/a", "a", false}, {"ab/c", "a", false}, {"ab", "a", false}, {"a.b/c", "a", false},
		{"a/bc", "a/b", false}, {"x/a/b", "a", false}, {"a/b", "b", false}, {"a", "", false}, {"a/b", "", false}, {"", "", false}, {"", "a", false}, {"/a", "", false}, {"//", "", false}, {"//", "/", false},
		{"a/b", "a/", false}, {"a//b", "a", false}, {"a//b", "a/", false}, {"a/", "a", false}, {"/a/b", "/a", false}, {"A/b", "A", false}, {"a/B", "a", false}, {"a/..", "a", false},
		{"./a", ".", false}, {"../a", "..", false}, {"a/b/c/d/e", "a", false}, {"a/b/c/d/e", "a/b/c/d", false}, {"a/" + long(17), "a", false}, {"a/" + long(16), "a", true}, {long(17) + "/a", long(17), false},
	} {
		if got := path.Under(c.p, c.dir); got != c.want {
			t.Errorf("Under of %q, %q: %v", c.p, c.dir, got)
		}
	}
}

// P7.1: Under by the document's words, of all short texts.
func TestUnderAll(t *testing.T) {
	for _, p := range all("aA/.", 5) {
		for _, dir := range all("aA/.", 3) {
			if got := path.Under(p, dir); got != wantUnder(p, dir) {
				t.Fatalf("Under of %q, %q: %v", p, dir, got)
			}
		}
	}
}

// P7.1: Inside is Work, and what is Under it.
func TestInside(t *testing.T) {
	for _, p := range []string{".work", ".work/a", ".work/a/b", ".work/a/b/c", ".work/.work", ".work/" + long(16)} {
		if !path.Inside(p) {
			t.Errorf("Inside of %s: false", p)
		}
	}
	for _, p := range []string{"a", "work", "work/a", ".works", ".works/a", ".wor", ".wor/k", ".work.", ".work-a", ".work-a/b", "a/.work", "a/.work/b", "..work", "..work/a", ".wOrk", ".w", ".work/a/b/c/d", ".work/", ".work//a", ".work/A", ".work/..", ".work/.", "/.work", "", ".work/" + long(17)} {
		if path.Inside(p) {
			t.Errorf("Inside of %q: true", p)
		}
	}
	for _, p := range some() {
		if got := path.Inside(p); got != (p == ".work" || wantUnder(p, ".work")) {
			t.Errorf("Inside of %.40q: %v", p, got)
		}
	}
}
