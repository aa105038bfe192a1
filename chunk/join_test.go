package chunk_test

import (
	"bytes"
	"slices"
	"testing"

	"tallyman/api"
	"tallyman/chunk"
	"tallyman/sum"
)

// P11.1: the bytes of each name's piece, one behind the other.
func TestJoin(t *testing.T) {
	have := []chunk.Piece{piece("a"), piece("bc"), piece("d"), piece("\x00")}
	for _, c := range []struct {
		names []string
		want  string
	}{
		{nil, ""}, {[]string{"a"}, "a"}, {[]string{"bc"}, "bc"}, {[]string{"d"}, "d"}, {[]string{"\x00"}, "\x00"},
		{[]string{"a", "bc", "d"}, "abcd"}, {[]string{"d", "bc", "a"}, "dbca"}, {[]string{"a", "a"}, "aa"},
		{[]string{"bc", "a", "bc", "bc", "\x00", "d"}, "bcabcbc\x00d"},
	} {
		if got, err := chunk.Join(sums(c.names...), have); err != api.OK || string(got) != c.want {
			t.Errorf("Join of %q: %q, %v", c.names, got, err)
		}
	}
}

// P11.1: of no names no bytes, whatever is there.
func TestJoinNoNames(t *testing.T) {
	for _, have := range [][]chunk.Piece{nil, {}, {piece("a")}, {says("a", "b")}, {{}}} {
		for _, names := range [][]sum.Sum{nil, {}} {
			if got, err := chunk.Join(names, have); err != api.OK || len(got) != 0 {
				t.Errorf("Join of no names, %d pieces: %q, %v", len(have), got, err)
			}
		}
	}
}

// P11.1: of several alike the first, Good or not; those that no name asks for
// may be any.
func TestJoinFirst(t *testing.T) {
	for _, c := range []struct {
		have []chunk.Piece
		want api.Errno
	}{
		{[]chunk.Piece{piece("a"), piece("a")}, api.OK},
		{[]chunk.Piece{piece("a"), says("a", "b")}, api.OK},
		{[]chunk.Piece{says("a", "b"), piece("a")}, api.ESUM},
		{[]chunk.Piece{says("a", ""), piece("a")}, api.ESUM},
		{[]chunk.Piece{says("b", "a"), piece("a"), says("a", "b"), says("a", "")}, api.OK},
		{[]chunk.Piece{piece("b"), says("a", "b"), piece("a"), piece("a")}, api.ESUM},
		{[]chunk.Piece{says("b", ""), {}, says("", "b"), piece("a")}, api.OK},
	} {
		got, err := chunk.Join(sums("a"), c.have)
		if err != c.want || (err == api.OK) != (string(got) == "a") {
			t.Errorf("Join of a, %v: %q, %v", c.have, got, err)
		}
	}
}

// P11.1, R2: name by name ENONE, ESUM: that of the first name that has one, and
// no bytes with it.
func TestJoinErrors(t *testing.T) {
	have := []chunk.Piece{piece("a"), says("bad", "b"), piece("c"), says("none", ""), {}}
	for _, c := range []struct {
		names []string
		want  api.Errno
	}{
		{[]string{"x"}, api.ENONE}, {[]string{"b"}, api.ENONE}, {[]string{"bad"}, api.ESUM}, {[]string{"none"}, api.ESUM}, {[]string{""}, api.ENONE},
		{[]string{"a", "x"}, api.ENONE}, {[]string{"x", "a"}, api.ENONE}, {[]string{"a", "bad"}, api.ESUM}, {[]string{"bad", "a"}, api.ESUM},
		{[]string{"x", "bad"}, api.ENONE}, {[]string{"bad", "x"}, api.ESUM}, {[]string{"a", "c", "bad", "x"}, api.ESUM}, {[]string{"a", "c", "x", "bad"}, api.ENONE},
		{[]string{"a", "a", "c", "none", "bad"}, api.ESUM},
	} {
		if got, err := chunk.Join(sums(c.names...), have); err != c.want || len(got) != 0 {
			t.Errorf("Join of %q: %q, %v, want %v", c.names, got, err, c.want)
		}
	}
	if got, err := chunk.Join([]sum.Sum{{}}, have); err != api.ESUM || len(got) != 0 {
		t.Errorf("Join of the sum of noughts, which an empty piece says: %q, %v", got, err)
	}
	for _, none := range [][]chunk.Piece{nil, {}} {
		if got, err := chunk.Join(sums("a"), none); err != api.ENONE || len(got) != 0 {
			t.Errorf("Join of nothing: %q, %v", got, err)
		}
	}
}

// P11.1: what is not Good by how many bytes it has is ESUM, its sum right or
// not.
func TestJoinLimits(t *testing.T) {
	for _, n := range []int{0, 1, 2, 127, 128, 129, 1 << 16} {
		b := string(noise(n, 3))
		want := api.ESUM
		if 1 <= n && n <= 128 {
			want = api.OK
		}
		got, err := chunk.Join(sums("a", b), []chunk.Piece{piece(b), piece("a")})
		if err != want || (err == api.OK) != (string(got) == "a"+b) {
			t.Errorf("Join of %d bytes: %d, %v", n, len(got), err)
		}
	}
}

// P11.1: each bit of a name tells.
func TestJoinBits(t *testing.T) {
	have := []chunk.Piece{piece("a"), piece("b")}
	for i := range 256 {
		name := have[1].Sum
		name[i/8] ^= 1 << (i % 8)
		if got, err := chunk.Join([]sum.Sum{have[0].Sum, name}, have); err != api.ENONE || len(got) != 0 {
			t.Errorf("Join of a name with another bit %d: %q, %v", i, got, err)
		}
	}
}

// P11.1: of any many names and pieces, in any order.
func TestJoinMany(t *testing.T) {
	b := noise(1<<20, 7)
	names, have := chunk.Names(b), chunk.Cut(b)
	slices.Reverse(have)
	if got, err := chunk.Join(names, have); err != api.OK || !bytes.Equal(got, b) {
		t.Fatalf("Join of %d names: %d bytes, %v", len(names), len(got), err)
	}
	slices.Reverse(names)
	want := make([]byte, 0, len(b))
	for _, p := range have {
		want = append(want, p.B...)
	}
	if got, err := chunk.Join(names, have); err != api.OK || !bytes.Equal(got, want) {
		t.Fatalf("Join of %d names, backwards: %d bytes, %v", len(names), len(got), err)
	}
	if got, err := chunk.Join(append(names, sum.Sum{}), have); err != api.ENONE || len(got) != 0 {
		t.Errorf("Join, the last of %d names is not there: %d bytes, %v", len(names), len(got), err)
	}
	if got, err := chunk.Join(names, have[:len(have)-1]); err != api.ENONE || len(got) != 0 {
		t.Errorf("Join, the last of %d pieces is not there: %d bytes, %v", len(have), len(got), err)
	}
	one := chunk.Piece{Sum: sum.Of(b[:128]), B: b[:128]}
	if got, err := chunk.Join(slices.Repeat([]sum.Sum{one.Sum}, 1<<12), []chunk.Piece{one}); err != api.OK || !bytes.Equal(got, bytes.Repeat(one.B, 1<<12)) {
		t.Errorf("Join of one piece often: %d bytes, %v", len(got), err)
	}
}
