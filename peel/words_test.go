package peel_test

import (
	"slices"
	"testing"

	"tallyman/api"
	"tallyman/cell"
	"tallyman/peel"
	"tallyman/set"
	"tallyman/sum"
	"tallyman/table"
)

// wantFirst tells the first cell from which a sum can be taken out, by the
// document's words (-1, if there is none).
func wantFirst(t table.Table) int {
	for at, c := range t.L {
		if (c.Count == 1 || c.Count == -1) && check(c.Key) == c.Check && slices.Contains(places(t.Seed, len(t.L), c.Key), at) {
			return at
		}
	}
	return -1
}

// wantAll tells what All does, by the document's words.
func wantAll(t table.Table) (plus, minus []sum.Sum, left table.Table, err api.Errno) {
	often := map[sum.Sum]int{}
	most := 0
	for n := 0; n <= 1024; n++ {
		at := wantFirst(t)
		if at < 0 {
			break
		}
		c := t.L[at]
		if c.Count == 1 {
			plus = append(plus, c.Key)
		} else {
			minus = append(minus, c.Key)
		}
		t = put(t, -c.Count, c.Key)
		often[c.Key]++
		most = max(most, often[c.Key])
	}
	if most > 1 || slices.ContainsFunc(t.L, func(c cell.Cell) bool { return c != cell.Cell{} }) {
		return nil, nil, t, api.EPEEL
	}
	return plus, minus, t, api.OK
}

// wantOwn tells what Own does of what is Good, by the document's words.
func wantOwn(t table.Table, mine set.Set) (theirs, ours []sum.Sum, err api.Errno) {
	theirs, ours, _, err = wantAll(put(t, -1, mine...))
	for _, x := range theirs {
		if slices.Contains(mine, x) {
			err = api.EPEEL
		}
	}
	for _, x := range ours {
		if !slices.Contains(mine, x) {
			err = api.EPEEL
		}
	}
	if err != api.OK {
		return nil, nil, err
	}
	return theirs, ours, api.OK
}

// isSaid tells whether All is as the document says it.
func isSaid(t *testing.T, a table.Table) api.Errno {
	t.Helper()
	plus, minus, left, want := wantAll(a)
	got, err := peel.All(a)
	if err != want || !slices.Equal(got.Plus, set.Of(plus...)) || !slices.Equal(got.Minus, set.Of(minus...)) || !same(got.Left, left) {
		t.Fatalf("of %s: %d, %d, %s, %v; want %d, %d, %s, %v", tell(a), len(got.Plus), len(got.Minus), tell(got.Left), err, len(plus), len(minus), tell(left), want)
	}
	return err
}

// kinds are cells of which some come out, some don't, some hold others back.
func kinds(x, y sum.Sum) []cell.Cell {
	return []cell.Cell{
		{}, alone(1, x), alone(-1, x), alone(-1, y), lay(alone(1, x), 1, y), lay(alone(1, x), -1, y),
		{Count: 2}, alone(3, x), {Count: 1, Key: x, Check: y},
	}
}

// P16.1: each table of three cells of some kinds.
func TestWordsThree(t *testing.T) {
	l := kinds(nth(1), nth(2))
	often := map[api.Errno]int{}
	for _, a := range l {
		for _, b := range l {
			for _, c := range l {
				often[isSaid(t, table.Table{Seed: 1, L: []cell.Cell{a, b, c}})]++
			}
		}
	}
	if often[api.OK] != 4 || often[api.EPEEL] != 725 {
		t.Errorf("%v", often)
	}
}

// mix is numbers that hang on nothing but how many were told.
type mix uint64

func (m *mix) next(n int) int {
	*m = *m*6364136223846793005 + 1442695040888963407
	return int(uint64(*m) >> 33 % uint64(n))
}

// P16.1: tables of six and twelve cells, in each of which some sums lie or don't.
func TestWordsSome(t *testing.T) {
	var m mix
	for _, n := range []int{6, 12} {
		for range 150 {
			a := empty(3, n)
			for at := range a.L {
				for i := range 4 {
					a.L[at] = lay(a.L[at], int64(m.next(9)/4-m.next(9)/4), nth(i))
				}
			}
			isSaid(t, a)
		}
	}
}

// P16.1, P16.2: sets that are more and more unlike, up to what can't be told; what
// is told makes of the one the other.
func TestWordsSets(t *testing.T) {
	var m mix
	often := map[api.Errno]int{}
	for range 400 {
		n := 3 * (1 + m.next(8))
		var theirs, mine []sum.Sum
		for i := range 4 + m.next(12) {
			switch m.next(4) {
			case 0:
				theirs = append(theirs, nth(i))
			case 1:
				mine = append(mine, nth(i))
			default:
				theirs, mine = append(theirs, nth(i)), append(mine, nth(i))
			}
		}
		seed := uint64(m.next(1000))
		a := put(empty(seed, n), 1, theirs...)
		isSaid(t, a)
		often[isOwn(t, a, set.Of(mine...))]++
	}
	if often[api.OK] < 50 || often[api.EPEEL] < 50 {
		t.Errorf("%v", often)
	}
}

// P16.1, P16.2: tables that no set makes, with more than one of some or less
// than none.
func TestWordsNoSets(t *testing.T) {
	var m mix
	often := map[api.Errno]int{}
	for range 400 {
		a := empty(uint64(m.next(1000)), 3*(2+m.next(8)))
		var mine []sum.Sum
		for i := range 5 {
			if often := m.next(8); often < 5 {
				a = put(a, int64(often-1), nth(i))
			} else {
				a = put(a, int64(often-5), nth(i))
			}
			if m.next(2) == 0 {
				mine = append(mine, nth(i))
			}
		}
		isSaid(t, a)
		often[isOwn(t, a, set.Of(mine...))]++
	}
	if often[api.OK] < 5 || often[api.EPEEL] < 50 {
		t.Errorf("%v", often)
	}
}

// isOwn tells whether Own is as the document says it, and whether what is told
// makes mine what the other one's table is of.
func isOwn(t *testing.T, a table.Table, mine set.Set) api.Errno {
	t.Helper()
	wantTheirs, wantOurs, want := wantOwn(a, mine)
	theirs, ours, err := peel.Own(a, mine)
	if err != want || !slices.Equal(theirs, set.Of(wantTheirs...)) || !slices.Equal(ours, set.Of(wantOurs...)) {
		t.Fatalf("Own of %s, %d: %v, %v, %v", tell(a), len(mine), theirs, ours, err)
	}
	if err != api.OK {
		return err
	}
	now, err := table.Of(a.Seed, len(a.L), set.Either(set.Minus(mine, ours), theirs))
	if err != api.OK || !same(now, a) {
		t.Fatalf("Own of %s, %d: %v, %s", tell(a), len(mine), err, tell(now))
	}
	return api.OK
}

// P16.2: of many, too.
func TestWordsMany(t *testing.T) {
	for _, c := range []struct{ theirs, mine, both, n int }{{200, 100, 400, 600}, {400, 300, 100, 1023}, {600, 50, 20, 1023}} {
		both := from(2000, c.both)
		a := put(empty(9, c.n), 1, set.Either(from(0, c.theirs), both)...)
		if err := isOwn(t, a, set.Either(from(1000, c.mine), both)); err != api.OK {
			t.Errorf("%v: %v", c, err)
		}
	}
}
