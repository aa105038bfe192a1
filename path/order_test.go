package path_test

import (
	"slices"
	"strings"
	"testing"

	"tallyman/path"
)

// wantCmp tells Cmp's answer by the document's words, name by name.
func wantCmp(a, b string) int {
	return slices.Compare(strings.Split(a, "/"), strings.Split(b, "/"))
}

// P7.1: by names, not by the bytes of all.
func TestCmp(t *testing.T) {
	rising := []string{
		"", "/", "//", "//a", "/\x00", "/a", "\x00", "\x00/", "!", ".", "./a", "..", "../a", ".work", ".work/a", "0", "A", "A/b", "a", "a/", "a//", "a//a", "a/\x00",
		"a/-", "a/a", "a/a/b", "a/a-b", "a/ab", "a/b", "a/b/", "a/b/a", "a/b/z/z/z", "a/b.c", "a/b0", "a/bb", "a/z", "a/\xff", "a\x00", "a\x00b", "a!", "a-", "a-/b", "a-b", "a.", "a.b", "a.b/c", "a0", "aa", "aa/a", "ab", "b", "b/a", "z", "é", "\xff", "\xff/\xff", "\xff\xff",
	}
	for i, a := range rising {
		for j, b := range rising {
			want := 0
			if i < j {
				want = -1
			} else if i > j {
				want = 1
			}
			if got := path.Cmp(a, b); got != want {
				t.Errorf("Cmp of %q, %q: %d, want %d", a, b, got, want)
			}
		}
	}
}

// P7.1: Cmp by the document's words, of all pairs of short texts.
func TestCmpAll(t *testing.T) {
	l := all("a/.\x00b", 4)
	for _, a := range l {
		for _, b := range l {
			if got := path.Cmp(a, b); got != wantCmp(a, b) {
				t.Fatalf("Cmp of %q, %q: %d, want %d", a, b, got, wantCmp(a, b))
			}
		}
	}
}

// P7.1: each two bytes, where one tells: by their numbers, a / as a name's end.
func TestCmpBytes(t *testing.T) {
	for x := range 256 {
		for y := range 256 {
			for _, c := range [][2]string{
				{string([]byte{byte(x)}), string([]byte{byte(y)})},
				{string([]byte{'a', byte(x), 'b'}), string([]byte{'a', byte(y), 'a'})},
			} {
				if got := path.Cmp(c[0], c[1]); got != wantCmp(c[0], c[1]) {
					t.Fatalf("Cmp of %q, %q: %d, want %d", c[0], c[1], got, wantCmp(c[0], c[1]))
				}
			}
		}
	}
}

// P7.1, R1: any texts, the long ones and those of many names too.
func TestCmpLong(t *testing.T) {
	const n = 1 << 20
	for _, one := range []string{"a", "/", "a/", "\xff", "é/"} {
		a := strings.Repeat(one, n)
		for _, c := range []struct {
			a, b string
			want int
		}{{a, a, 0}, {a, a + "a", -1}, {a + "/", a, 1}, {a + "b", a + "a", 1}, {a + "/z", a + "a", -1}, {a + "a/", a + "/a", 1}, {"", a, -1}} {
			if got := path.Cmp(c.a, c.b); got != c.want {
				t.Errorf("Cmp of many %q: %d, want %d", one, got, c.want)
			}
		}
	}
}

// P7.1: Sort by the document's words: the Good ones, by Cmp, each once.
func TestSort(t *testing.T) {
	for _, c := range [][2]string{
		{"", ""}, {"a", "a"}, {"b a", "a b"}, {"a a", "a"}, {"a b a b a", "a b"}, {"c a b", "a b c"},
		{"a-b a/b a a.b ab a0", "a a/b a-b a.b a0 ab"},
		{"b/a a/b b a a/b/c a/c a/b-c a/b.c", "a a/b a/b/c a/b-c a/b.c a/c b b/a"},
		{"a.b/c a/b/c a.b a/b a-b/c a-b a", "a a/b a/b/c a-b a-b/c a.b a.b/c"},
		{"A b / a/ /a a//b . .. b", "b"}, {"A B . .. / a/b/c/d/e", ""},
		{"z .work/a .work a .work", ".work .work/a a z"},
		{"b A b a B a", "a b"},
	} {
		if got := path.Sort(strings.Fields(c[0])); !slices.Equal(got, strings.Fields(c[1])) {
			t.Errorf("Sort of %s: %q, want %s", c[0], got, c[1])
		}
	}
}

// shuffled puts a list out of order, the same way each time.
func shuffled(l []string, seed uint32) []string {
	l = slices.Clone(l)
	for i := len(l) - 1; i > 0; i-- {
		seed = seed*1103515245 + 12345
		j := int(seed>>8) % (i + 1)
		l[i], l[j] = l[j], l[i]
	}
	return l
}

// P7.1, R5: Sort of many, however they come, and however often each.
func TestSortMany(t *testing.T) {
	l := append(some(), all("ab/-", 6)...)
	var want []string
	for _, p := range l {
		if wantGood(p) {
			want = append(want, p)
		}
	}
	slices.SortFunc(want, wantCmp)
	want = slices.Compact(want)
	for seed := range uint32(4) {
		if got := path.Sort(shuffled(append(l, l[:len(l)/2]...), seed)); !slices.Equal(got, want) {
			t.Fatalf("Sort of %d: %d, want %d", len(l), len(got), len(want))
		}
	}
	if got := path.Sort(want); !slices.Equal(got, want) {
		t.Errorf("Sort of what is sorted: %d, want %d", len(got), len(want))
	}
}

// P7.1, R4: of nothing, and of nothing Good: nothing.
func TestSortNothing(t *testing.T) {
	for _, l := range [][]string{nil, {}, make([]string, 0, 9), {""}, {"", "/", "A"}, bad()} {
		if got := path.Sort(l); len(got) != 0 {
			t.Errorf("Sort of %d, none Good: %.99q", len(l), got)
		}
	}
}

// R4: what is handed in stays as it is, spare room too.
func TestSortLeaves(t *testing.T) {
	whole := []string{"c", "A", "b", "c", "a", "b", "spare", "room", "spare"}
	was := slices.Clone(whole)
	if got := path.Sort(whole[:6]); !slices.Equal(got, []string{"a", "b", "c"}) {
		t.Errorf("Sort: %q", got)
	}
	if !slices.Equal(whole, was) {
		t.Errorf("Sort leaves %q", whole)
	}
}

// R4: what is answered is new memory, spare room too, and nothing of it is
// kept.
func TestSortNew(t *testing.T) {
	whole := []string{"a", "b", "c", "spare", "room"}
	got := path.Sort(whole[:3])
	got = got[:cap(got)]
	for i := range got {
		got[i] = "x"
	}
	if !slices.Equal(whole, []string{"a", "b", "c", "spare", "room"}) {
		t.Errorf("Sort's answer was the list that was handed in: %q", whole)
	}
	if again := path.Sort(whole[:3]); !slices.Equal(again, []string{"a", "b", "c"}) {
		t.Errorf("Sort again: %q", again)
	}
	whole[0] = "z"
	if got[0] != "x" {
		t.Errorf("Sort's answer is kept to the list: %q", got)
	}
}
