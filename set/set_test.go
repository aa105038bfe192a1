package set_test

import (
	"crypto/sha256"
	"slices"
	"strings"
	"testing"

	"tallyman/api"
	"tallyman/set"
	"tallyman/sum"
)

// one makes the sum that begins with a name, the rest noughts.
func one(name string) sum.Sum {
	var x sum.Sum
	copy(x[:], name)
	return x
}

// list makes sums of names, in the order in which they stand.
func list(names string) set.Set {
	var l set.Set
	for _, name := range strings.Fields(names) {
		l = append(l, one(name))
	}
	return l
}

// names tells the names of sums.
func names(s set.Set) string {
	var l []string
	for _, x := range s {
		l = append(l, strings.TrimRight(string(x[:]), "\x00"))
	}
	return strings.Join(l, " ")
}

// many makes n sums that rise: from on, by twos.
func many(from, n int) set.Set {
	var l set.Set
	for i := range n {
		v := from + 2*i
		l = append(l, sum.Sum{2: byte(v >> 16), 3: byte(v >> 8), 4: byte(v), 31: byte(255 - i)})
	}
	return l
}

// P10.1: the chapter's example.
func TestExample(t *testing.T) {
	if got := set.Minus(list("1 2"), list("2")); names(got) != "1" {
		t.Errorf("Minus: %s", names(got))
	}
}

// P10.1: Of tells each once, rising.
func TestOf(t *testing.T) {
	for _, c := range [][2]string{
		{"", ""}, {"a", "a"}, {"a b", "a b"}, {"b a", "a b"}, {"a a", "a"}, {"a a a", "a"}, {"a b a b", "a b"}, {"b b a a", "a b"},
		{"c a b", "a b c"}, {"c b a", "a b c"}, {"b a a b c c a", "a b c"},
		{"b ab a \x7f \x80 \xff A aa", "A a aa ab b \x7f \x80 \xff"},
	} {
		if got := set.Of(list(c[0])...); names(got) != c[1] {
			t.Errorf("Of %q: %q, want %q", c[0], names(got), c[1])
		}
	}
	if got := set.Of(one("b"), one("a"), one("b")); names(got) != "a b" {
		t.Errorf("Of three: %s", names(got))
	}
	if got := set.Of(); len(got) != 0 {
		t.Errorf("Of nothing: %s", names(got))
	}
	// The sum that is all noughts is one as any other.
	if got := set.Of(one("a"), sum.Sum{}, sum.Sum{}); len(got) != 2 || got[0] != (sum.Sum{}) {
		t.Errorf("Of the sum of noughts: %v", got)
	}
}

// P10.1: in sum's order: by bytes, the first first, none of them with a sign;
// each of the thirty-two tells.
func TestOfBytes(t *testing.T) {
	for i := range 32 {
		for _, c := range [][2]byte{{0, 1}, {0, 255}, {127, 128}, {254, 255}, {1, 128}} {
			var low, high sum.Sum
			low[31] = 255
			low[i], high[i] = c[0], c[1]
			for _, got := range []set.Set{set.Of(low, high), set.Of(high, low), set.Add(set.Of(low), high), set.Add(set.Of(high), low), set.Either(set.Set{high}, set.Set{low})} {
				if !slices.Equal(got, set.Set{low, high}) {
					t.Errorf("byte %d of %d, %d: %v", i, c[0], c[1], got)
				}
			}
			if !set.Good(set.Set{low, high}) || set.Good(set.Set{high, low}) {
				t.Errorf("byte %d of %d, %d: Good", i, c[0], c[1])
			}
		}
	}
}

// P10.1: Of is of any many; what it tells of too many is not Good.
func TestOfMany(t *testing.T) {
	for _, n := range []int{api.MaxSet - 1, api.MaxSet, api.MaxSet + 1, 2 * api.MaxSet, 1 << 16} {
		want := many(0, n)
		back := slices.Clone(want)
		slices.Reverse(back)
		got := set.Of(append(back, want...)...)
		if !slices.Equal(got, want) {
			t.Fatalf("Of %d: %d", n, len(got))
		}
		if set.Good(got) != (n <= api.MaxSet) {
			t.Errorf("Good of %d: %v", n, set.Good(got))
		}
	}
}

// P10.1: what is Good rises, and is at most MaxSet.
func TestGood(t *testing.T) {
	for _, names := range []string{"", "a", "a b", "a b c", "a aa ab b", "a \x7f \x80 \xff"} {
		if !set.Good(list(names)) {
			t.Errorf("Good of %q: false", names)
		}
	}
	for _, names := range []string{"a a", "b a", "a b b", "a a b", "b a c", "a c b", "c b a", "a b a", "\x80 \x7f"} {
		if set.Good(list(names)) {
			t.Errorf("Good of %q: true", names)
		}
	}
	if !set.Good(nil) || !set.Good(set.Set{}) || !set.Good(set.Set{{}}) || set.Good(set.Set{{}, {}}) {
		t.Error("Good of nothing, or of noughts")
	}
}

// P10.1: how many there may be, by one; and each place at which one may fall,
// or stand twice.
func TestGoodLimits(t *testing.T) {
	if api.MaxSet != 512 {
		t.Fatal("MaxSet")
	}
	for _, n := range []int{510, 511, 512, 513, 514, 1024, 1 << 16} {
		if got := set.Good(many(0, n)); got != (n <= 512) {
			t.Errorf("Good of %d: %v", n, got)
		}
	}
	for i := range 511 {
		s := many(0, 512)
		s[i], s[i+1] = s[i+1], s[i]
		if set.Good(s) {
			t.Errorf("Good of 512 that fall at %d: true", i)
		}
		s = many(0, 512)
		s[i+1] = s[i]
		if set.Good(s) {
			t.Errorf("Good of 512, one of them twice at %d: true", i)
		}
	}
}

// P10.1: Has, of each that is in a set and each that is between.
func TestHas(t *testing.T) {
	for _, n := range []int{0, 1, 2, 3, 4, 5, 100, 511, 512} {
		s := many(1, n)
		for i := range 2*n + 3 {
			x := many(i, 1)[0]
			x[31] = byte(255 - i/2)
			if got := set.Has(s, x); got != (i%2 == 1 && i < 2*n) {
				t.Errorf("Has of %d, at %d: %v", n, i, got)
			}
			if x[31] ^= 1; set.Has(s, x) {
				t.Errorf("Has of %d, beside %d: true", n, i)
			}
		}
	}
	if set.Has(nil, sum.Sum{}) || !set.Has(set.Set{{}}, sum.Sum{}) || set.Has(list("a"), sum.Sum{}) {
		t.Error("Has of the sum of noughts")
	}
}

// P10.1: Has, and Same, are false of what is not Good, whatever is in it.
func TestNotGoodFalse(t *testing.T) {
	for _, s := range []set.Set{list("b a"), list("a a"), list("a b b"), list("a c b"), many(0, 513), many(0, 1024)} {
		for _, x := range s {
			if set.Has(s, x) {
				t.Errorf("Has of %d that are not Good: true", len(s))
				break
			}
		}
		for _, o := range []set.Set{s, slices.Clone(s), set.Of(s...), nil, list("a b")} {
			if set.Same(s, o) || set.Same(o, s) {
				t.Errorf("Same of %d that are not Good, and %d: true", len(s), len(o))
			}
		}
	}
}

// P10.1: Same tells whether two that are Good are alike in all.
func TestSame(t *testing.T) {
	l := []set.Set{nil, list("a"), list("b"), list("a b"), list("a c"), list("b c"), list("a b c"), {{}}, {{}, {31: 1}}, many(0, 511), many(0, 512), many(2, 512), many(1, 512)}
	for i, a := range l {
		for j, b := range l {
			if got := set.Same(a, slices.Clone(b)); got != (i == j) {
				t.Errorf("Same of number %d, %d: %v", i, j, got)
			}
		}
	}
	if !set.Same(nil, set.Set{}) || !set.Same(set.Set{}, nil) || !set.Same(make(set.Set, 0, 9), set.Set{}) {
		t.Error("Same of nothing: nil and empty are one")
	}
	s := many(0, 512)
	for i := range s {
		o := slices.Clone(s)
		if o[i][31] ^= 1; set.Same(s, o) {
			t.Errorf("Same of two that are unlike at %d: true", i)
		}
	}
}

// P10.1: one more, where it belongs, once.
func TestAdd(t *testing.T) {
	for _, c := range [][3]string{
		{"", "a", "a"}, {"a", "a", "a"}, {"a", "b", "a b"}, {"b", "a", "a b"}, {"a c", "b", "a b c"}, {"b c", "a", "a b c"}, {"a b", "c", "a b c"},
		{"a b c", "a", "a b c"}, {"a b c", "b", "a b c"}, {"a b c", "c", "a b c"},
		{"b a", "c", "a b c"}, {"b a", "a", "a b"}, {"a a", "a", "a"}, {"c c a a", "b", "a b c"},
	} {
		if got := set.Add(list(c[0]), one(c[1])); names(got) != c[2] {
			t.Errorf("Add %s to %s: %s, want %s", c[1], c[0], names(got), c[2])
		}
	}
}

// P10.1: to a full one, one more; to one that is above full, too.
func TestAddFull(t *testing.T) {
	for _, n := range []int{510, 511, 512, 513, 514, 1000} {
		for i := range 2*n + 1 {
			s, x := many(1, n), many(i, 1)[0]
			if x[31] = 255; i%2 == 1 {
				x = s[i/2]
			}
			got := set.Add(s, x)
			if i%2 == 1 {
				if !slices.Equal(got, s) {
					t.Fatalf("Add to %d what is there at %d: %d", n, i, len(got))
				}
				continue
			}
			if !slices.Equal(got, slices.Insert(s, i/2, x)) || set.Good(got) != (n < 512) {
				t.Fatalf("Add to %d, at %d: %d, Good %v", n, i, len(got), set.Good(got))
			}
		}
	}
}

// P10.1: as sets, which are told by Of where they are not Good.
func TestTwo(t *testing.T) {
	for _, c := range []struct{ a, b, minus, both, either string }{
		{"", "", "", "", ""}, {"a", "", "a", "", "a"}, {"", "a", "", "", "a"}, {"a", "a", "", "a", "a"}, {"a", "b", "a", "", "a b"}, {"b", "a", "b", "", "a b"},
		{"1 2", "2", "1", "2", "1 2"}, {"a b c", "b", "a c", "b", "a b c"}, {"a c", "b", "a c", "", "a b c"}, {"b", "a c", "b", "", "a b c"},
		{"a b c d", "b d f", "a c", "b d", "a b c d f"}, {"b d f", "a b c d", "f", "b d", "a b c d f"}, {"a b", "c d", "a b", "", "a b c d"}, {"c d", "a b", "c d", "", "a b c d"},
		{"b a", "", "a b", "", "a b"}, {"", "b a", "", "", "a b"}, {"b a", "b", "a", "b", "a b"}, {"a a", "a", "", "a", "a"}, {"a a", "b b", "a", "", "a b"},
		{"a", "b a b a", "", "a", "a b"}, {"c c b a a", "d b d", "a c", "b", "a b c d"},
	} {
		a, b := list(c.a), list(c.b)
		if got := set.Minus(a, b); names(got) != c.minus {
			t.Errorf("Minus of %s, %s: %s, want %s", c.a, c.b, names(got), c.minus)
		}
		if got := set.Both(a, b); names(got) != c.both {
			t.Errorf("Both of %s, %s: %s, want %s", c.a, c.b, names(got), c.both)
		}
		if got := set.Either(a, b); names(got) != c.either {
			t.Errorf("Either of %s, %s: %s, want %s", c.a, c.b, names(got), c.either)
		}
	}
}

// P10.1: of more than MaxSet, too, all is as of sets.
func TestTwoAboveFull(t *testing.T) {
	for _, n := range []int{512, 513, 1000, 1 << 15} {
		a, b := many(0, n), many(1, n)
		all := set.Either(a, b)
		if len(all) != 2*n || !slices.Equal(all, set.Of(append(slices.Clone(b), a...)...)) {
			t.Fatalf("Either of %d each: %d", n, len(all))
		}
		if got := set.Minus(all, b); !slices.Equal(got, a) {
			t.Errorf("Minus of %d: %d", n, len(got))
		}
		if got := set.Both(b, all); !slices.Equal(got, b) {
			t.Errorf("Both of %d: %d", n, len(got))
		}
		if got := set.Both(a, b); len(got) != 0 {
			t.Errorf("Both of two without a sum of both: %d", len(got))
		}
	}
}

// wantTell tells Tell's answer of a set, by the library.
func wantTell(s set.Set) sum.Sum {
	var b []byte
	for _, x := range s {
		b = append(b, x[:]...)
	}
	return sha256.Sum256(b)
}

// P10.1: Tell is of all bytes of each, in order, and nothing else.
func TestTell(t *testing.T) {
	for _, c := range []struct {
		s    set.Set
		want string
	}{
		{nil, "e3b0c44298fc1c149afbf4c8996fb92427ae41e4649b934ca495991b7852b855"},
		{set.Set{}, "e3b0c44298fc1c149afbf4c8996fb92427ae41e4649b934ca495991b7852b855"},
		{set.Set{{}}, "66687aadf862bd776c8fc18b8e9f8e20089714856ee233b3902a591d0d5f2925"},
		{set.Set{{}, {}}, "66687aadf862bd776c8fc18b8e9f8e20089714856ee233b3902a591d0d5f2925"},
	} {
		if got := set.Tell(c.s).Text(); got != c.want {
			t.Errorf("Tell of %d: %s, want %s", len(c.s), got, c.want)
		}
	}
	for _, n := range []int{1, 2, 3, 100, 511, 512, 513, 2000} {
		s := many(0, n)
		if set.Tell(s) != wantTell(s) {
			t.Errorf("Tell of %d: %s", n, set.Tell(s).Text())
		}
	}
	for _, names := range []string{"b a", "a a", "a b b", "c b a a b c"} {
		l := list(names)
		if set.Tell(l) != wantTell(set.Of(l...)) {
			t.Errorf("Tell of %s: not as of Of it", names)
		}
	}
}
