package recipe_test

import (
	"bytes"
	"encoding/hex"
	"fmt"
	"slices"
	"strings"
	"testing"

	"tallyman/api"
	"tallyman/recipe"
	"tallyman/sum"
	"tallyman/tree"
)

// gets looks what Get tells.
func gets(t *testing.T, b []byte, want recipe.Recipe, err api.Errno) {
	t.Helper()
	if got, gotErr := recipe.Get(b); gotErr != err || !same(got, want) {
		t.Errorf("Get of %d bytes, %.60x: %s, %v, want %s, %v", len(b), b, show(got), gotErr, show(want), err)
	}
}

// P12.1: bytes and sums that were worked out elsewhere.
func TestPutKnown(t *testing.T) {
	const hello = "2cf24dba5fb0a30e26e83b2ac5b9e29e1b161e5c1fa7425e73043362938b9824"
	const nought = "6e340b9cffb37a989ca544e6bb780a2c78901d3fb33738768511a30617afa01d"
	const noughts = "38723a2e5e8a17aa7950dc008209944e898f69a7bd10a23c839d341e935fd5ca"
	many := text("a/ a/b=hello a-b= c/ c/d/ c/d/e/ c/d/e/f=\x00")
	many.L[2].B = make([]byte, 300)
	var wide tree.Tree
	for i := range 20 {
		e := tree.Entry{Path: fmt.Sprintf("%02d", i)}
		for k := range 50 * i {
			e.B = append(e.B, byte(i*k*7+k*k))
		}
		wide.L = append(wide.L, e)
	}
	for _, c := range []struct {
		tree      tree.Tree
		n         int
		want, sum string
	}{
		{tree.Tree{}, 0, "", "e3b0c44298fc1c149afbf4c8996fb92427ae41e4649b934ca495991b7852b855"},
		{text("a/"), 3, "016101", "4bf39db843e67bd327438dd0f00251ace4a6c03716044c5fab46fe9d9d4ac37f"},
		{text("a=hello"), 68, "016100" + hello + "01" + hello, "2881f26428040cce9682ac66b6a57539775d8a27bd6ed37fb435cc66802cc53f"},
		{text("a="), 36, "016100e3b0c44298fc1c149afbf4c8996fb92427ae41e4649b934ca495991b7852b85500", "150237479a7b3a7a31fcf5ff4a0270006843dc49a8b061c7924b73a459fbb94e"},
		{many, 296, "016101" + "03612f6200" + hello + "01" + hello +
			"03612d6200" + "d13d4a8b3b8add19b5970157f09d00c12cbda4fed4d74d8493156523f7069b66" + "03" + noughts + noughts + "85759b3811ff7dc47b03792ac85317be51431a3f9e01dcafce317ed736a391b0" +
			"016301" + "03632f6401" + "05632f642f6501" + "07632f642f652f6600" + nought + "01" + nought, "7d40025624a25802922046ae3d3295a301a7322cebf5f77aafc3fc28eecd3fe8"},
		{wide, 7428, "", "b805b5d650d8bc6e6268058bd905e0197017eac727c1480e0179204b4013d4e6"},
	} {
		r := recipe.Of(c.tree)
		got := recipe.Put(r)
		if len(got) != c.n || c.want != "" && hex.EncodeToString(got) != c.want || recipe.Tell(r).Text() != c.sum {
			t.Errorf("Put of %s: %d bytes, %x, %s", show(r), len(got), got, recipe.Tell(r).Text())
		}
		gets(t, got, r, api.OK)
	}
}

// P12.1: nothing of what is not Good.
func TestPutNotGood(t *testing.T) {
	for _, r := range []recipe.Recipe{
		{{}}, {file("b"), file("a")}, {file("a/b", "x")}, {dir(".work")}, {dir("a"), file("b"), file("b")}, {file("A")},
		{{Path: "a", Dir: true, Names: sums("x")}}, {{Path: "a", Dir: true, Whole: sum.Sum{31: 1}}},
		{{Path: "a", Names: make([]sum.Sum, 2049)}}, slices.Repeat(recipe.Recipe{file("a")}, 41),
	} {
		if got := recipe.Put(r); len(got) != 0 {
			t.Errorf("Put of %s: %x", show(r), got)
		}
	}
}

// P12.1: Get tells what Put wrote; of no bytes none.
func TestGetPut(t *testing.T) {
	for _, b := range [][]byte{nil, {}, make([]byte, 0, 9)} {
		gets(t, b, nil, api.OK)
	}
	for _, one := range trees() {
		r := recipe.Of(one)
		gets(t, recipe.Put(r), r, api.OK)
	}
	long := strings.Repeat("n", 16)
	r := recipe.Recipe{dir(long), dir(long + "/" + long), dir(long + "/" + long + "/" + long), file(long+"/"+long+"/"+long+"/"+long, "x")}
	if len(r[3].Path) != 67 {
		t.Fatal(len(r[3].Path))
	}
	gets(t, recipe.Put(r), r, api.OK)
}

// P12.1: how many Names is a number in one or two bytes, up to MaxFile.
func TestGetCounts(t *testing.T) {
	names := make([]sum.Sum, 2048)
	for i := range names {
		names[i] = sum.Sum{byte(i), byte(i >> 8), 31: 7}
	}
	for _, n := range []int{0, 1, 2, 127, 128, 129, 255, 256, 2047, 2048} {
		r := recipe.Recipe{{Path: "a", Whole: sum.Sum{9}, Names: names[:n]}, {Path: "b", Whole: sum.Sum{8}, Names: names[2048-n:]}, dir("c")}
		b := recipe.Put(r)
		count := 1
		if n > 127 {
			count = 2
		}
		if len(b) != 2*(3+32+count+32*n)+3 {
			t.Errorf("Put with %d Names: %d bytes", n, len(b))
		}
		gets(t, b, r, api.OK)
	}
}

// P12.1: what ends too soon is EMORE, wherever it ends within a line; at a
// line's end it is the lines up to there.
func TestGetMore(t *testing.T) {
	for _, one := range trees() {
		r := recipe.Of(one)
		b := recipe.Put(r)
		ends := map[int]int{}
		for i := range r {
			ends[len(recipe.Put(r[:i]))] = i
		}
		for n := range b {
			if i, there := ends[n]; there {
				gets(t, b[:n], r[:i], api.OK)
			} else {
				gets(t, b[:n], nil, api.EMORE)
			}
		}
	}
}

// line puts bytes together of a path, and what stands behind.
func line(p string, behind ...string) string {
	return string([]byte{byte(len(p))}) + p + strings.Join(behind, "")
}

// P12.1: what has another form: num's EFORM, another byte, a Path above 68
// bytes, more Names than MaxFile; and what of it is ahead of EMORE.
func TestGetForm(t *testing.T) {
	const whole = "0123456789abcdefghijklmnopqrstuv"
	at := func(n int) string { return strings.Repeat("n", n) }
	for _, c := range []struct {
		b    string
		want api.Errno
	}{
		// The number ahead of a path.
		{"\x80", api.EMORE}, {"\xff\xff\xff\xff\xff\xff\xff\xff\xff", api.EMORE}, {"\x80\x00", api.EFORM}, {"\x81\x00a\x01", api.EFORM}, {"\xff\xff\xff\xff\xff\xff\xff\xff\xff\x01", api.EFORM}, {"\xff\xff\xff\xff\xff\xff\xff\xff\xff\x02", api.EFORM},
		// A path of at most 68 bytes, though none of 68 may be.
		{"\x01", api.EMORE}, {line(at(67)), api.EMORE}, {"\x43", api.EMORE}, {line(at(67), "\x01"), api.EFORM}, {line(at(68)), api.EMORE}, {"\x44", api.EMORE}, {"\x44" + at(67), api.EMORE}, {line(at(68), "\x01"), api.EFORM}, {line(at(68), "\x00"), api.EMORE},
		{line(at(69)), api.EFORM}, {"\x45", api.EFORM}, {"\x45" + at(3), api.EFORM}, {"\x7f", api.EFORM}, {"\x80\x01", api.EFORM}, {"\x80\x80\x80\x80\x08", api.EFORM}, {line(at(69), "\x01"), api.EFORM},
		// The byte behind a path.
		{line("a"), api.EMORE}, {line(""), api.EMORE}, {line("a", "\x02"), api.EFORM}, {line("a", "\x80"), api.EFORM}, {line("a", "\xff", whole), api.EFORM}, {line("A", "\x02"), api.EFORM}, {line("a", "\x01", "\x01"), api.EMORE}, {line("a", "\x01", "\x00"), api.EMORE}, {line("a", "0"), api.EFORM},
		// A file's Whole, and how many Names.
		{line("a", "\x00"), api.EMORE}, {line("a", "\x00", whole[1:]), api.EMORE}, {line("a", "\x00", whole), api.EMORE}, {line("a", "\x00", whole, "\x80"), api.EMORE}, {line("a", "\x00", whole, "\x80\x00"), api.EFORM}, {line("a", "\x00", whole, "\x81\x00", whole), api.EFORM}, {line("a", "\x00", whole, "\x00"), api.OK},
		{line("a", "\x00", whole, "\x80\x80\x80\x80\x80\x80\x80\x80\x80\x80"), api.EFORM},
		// At most MaxFile Names.
		{line("a", "\x00", whole, "\x80\x10"), api.EMORE}, {line("a", "\x00", whole, "\x81\x10"), api.EFORM}, {line("a", "\x00", whole, "\x80\x20"), api.EFORM}, {line("a", "\x00", whole, "\xff\xff\xff\xff\xff\xff\xff\xff\xff\x01"), api.EFORM}, {line("a", "\x00", whole, "\x80\x80\x80\x80\x80\x80\x80\x80\x80\x01"), api.EFORM}, {line("a", "\x00", whole, "\x80\x80\x80\x80\x10"), api.EFORM}, {line("a", "\x00", whole, "\x81\x80\x80\x80\x10", whole), api.EFORM},
		// The Names.
		{line("a", "\x00", whole, "\x01"), api.EMORE}, {line("a", "\x00", whole, "\x01", whole[1:]), api.EMORE}, {line("a", "\x00", whole, "\x01", whole), api.OK}, {line("a", "\x00", whole, "\x02", whole, whole[:31]), api.EMORE}, {line("a", "\x00", whole, "\x02", whole, whole), api.OK},
		{line("a", "\x00", whole, "\x81\x10", strings.Repeat(whole, 2049)), api.EFORM}, {line("a", "\x00", whole, "\x80\x10", strings.Repeat(whole, 2048)), api.OK}, {line("a", "\x00", whole, "\x80\x10", strings.Repeat(whole, 2048)[1:]), api.EMORE},
	} {
		for _, ahead := range []string{"", line("-", "\x01"), line("-", "\x00", whole, "\x01", whole)} {
			if _, err := recipe.Get([]byte(ahead + c.b)); err != c.want {
				t.Errorf("Get of %q, %.70q: %v, want %v", ahead, c.b, err, c.want)
			}
		}
	}
}

// P12.1: every byte behind a path but 0 and 1 is EFORM.
func TestGetKinds(t *testing.T) {
	for i := range 256 {
		want := api.EFORM
		switch i {
		case 0:
			want = api.EMORE
		case 1:
			want = api.OK
		}
		if _, err := recipe.Get([]byte{1, 'a', byte(i)}); err != want {
			t.Errorf("Get of a line of %d: %v, want %v", i, err, want)
		}
	}
}

// P12.1: EFORM of what is not Good; but bytes that end too soon behind it are
// EMORE, that being named first.
func TestGetNotGood(t *testing.T) {
	a, b, work := line("a", "\x01"), line("b", "\x01"), line(".work", "\x01")
	whole := strings.Repeat("w", 32)
	for _, s := range []string{
		line("", "\x01"), line("A", "\x01"), line("a/b", "\x01"), line("..", "\x01"), line("", "\x00", whole, "\x00"), line("a\x00", "\x01"), line("a\xff", "\x01"), line(strings.Repeat("n", 17), "\x01"), line(strings.Repeat("n/", 32)+"n", "\x01"),
		b + a, a + a, a + b + a, a + b + line("a/c", "\x01"), line("a", "\x00", whole, "\x00") + line("a/b", "\x01"), line("a-b", "\x01") + a + line("a/b", "\x01"),
		work, work + a, line("-", "\x01") + work, work + line(".work/t1", "\x00", whole, "\x01", whole), line(".work", "\x00", whole, "\x00"),
	} {
		gets(t, []byte(s), nil, api.EFORM)
		gets(t, []byte(s+line("c", "\x01")), nil, api.EFORM)
		gets(t, []byte(s+line("c", "\x02")), nil, api.EFORM)
		gets(t, []byte(s+"\x45"), nil, api.EFORM)
		gets(t, []byte(s+line("c")), nil, api.EMORE)
		gets(t, []byte(s+"\x09"), nil, api.EMORE)
		gets(t, []byte(s+line("c", "\x00", whole, "\x01")), nil, api.EMORE)
	}
}

// P12.1: at most MaxPaths lines, by one; however many there are.
func TestGetLines(t *testing.T) {
	var s string
	var r recipe.Recipe
	for i := range 45 {
		p := fmt.Sprintf("d%02d", i)
		s += line(p, "\x01")
		r = append(r, dir(p))
	}
	each := len(s) / 45
	for n := range 46 {
		if n <= 40 {
			gets(t, []byte(s[:n*each]), r[:n], api.OK)
		} else {
			gets(t, []byte(s[:n*each]), nil, api.EFORM)
		}
		gets(t, []byte(s[:n*each]+"\x01"), nil, api.EMORE)
		gets(t, []byte(s[:n*each]+line("z", "\x02")), nil, api.EFORM)
	}
	for _, one := range []string{line("", "\x01"), line("a", "\x01"), line("a", "\x00", strings.Repeat("w", 32), "\x00")} {
		many := strings.Repeat(one, 1<<20)
		gets(t, []byte(many), nil, api.EFORM)
		gets(t, []byte(many+"\x01"), nil, api.EMORE)
		gets(t, []byte(many[:len(many)-1]), nil, api.EMORE)
	}
}

// P12.1: what Get takes is just what Put writes: of bytes of which one is
// another, or is left out, or comes in.
func TestGetJust(t *testing.T) {
	r := recipe.Recipe{dir("a"), file("a/b", "x", "y"), file("a-b"), dir("c"), file("c/d", "x")}
	b := recipe.Put(r)
	is := func(b []byte) {
		t.Helper()
		got, err := recipe.Get(b)
		want, wantErr := wantGet(b)
		if err != wantErr || !same(got, want) {
			t.Fatalf("Get of %x: %s, %v, want %s, %v", b, show(got), err, show(want), wantErr)
		}
		if err == api.OK && !bytes.Equal(recipe.Put(got), b) {
			t.Fatalf("Get of %x: OK, but Put of it is %x", b, recipe.Put(got))
		}
	}
	for i := range b {
		for x := range 256 {
			other := bytes.Clone(b)
			other[i] = byte(x)
			is(other)
			is(slices.Insert(bytes.Clone(b), i, byte(x)))
			is(append(bytes.Clone(b[:i]), byte(x)))
		}
		for n := range min(70, len(b)-i) {
			is(slices.Delete(bytes.Clone(b), i, i+n))
		}
	}
}
