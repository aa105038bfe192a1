package set_test

import (
	"slices"
	"testing"

	"tallyman/set"
	"tallyman/sum"
)

// model is a set by the document's words: what is in it, and nothing more.
type model map[sum.Sum]bool

// modelOf makes one of a list.
func modelOf(l []sum.Sum) model {
	m := model{}
	for _, x := range l {
		m[x] = true
	}
	return m
}

// list tells those that are in it and of which ok is told, rising.
func (m model) list(ok func(sum.Sum) bool) set.Set {
	var l set.Set
	for x := range m {
		if ok(x) {
			l = append(l, x)
		}
	}
	slices.SortFunc(l, sum.Sum.Cmp)
	return l
}

// all tells those that are in it, rising.
func (m model) all() set.Set { return m.list(func(sum.Sum) bool { return true }) }

// wantGood tells Good's answer by the document's words.
func wantGood(l set.Set) bool { return len(l) <= 512 && slices.Equal(l, modelOf(l).all()) }

// asWords tells whether all calls of one list are as the document's words say.
func asWords(t *testing.T, l set.Set, some []sum.Sum) {
	t.Helper()
	m, good := modelOf(l), wantGood(l)
	if got := set.Of(l...); !slices.Equal(got, m.all()) {
		t.Fatalf("Of %s: %s", names(l), names(got))
	}
	if got := set.Good(l); got != good {
		t.Fatalf("Good of %s: %v", names(l), got)
	}
	if got := set.Tell(l); got != wantTell(m.all()) {
		t.Fatalf("Tell of %s: %s", names(l), got.Text())
	}
	for _, x := range some {
		if got := set.Has(l, x); got != (good && m[x]) {
			t.Fatalf("Has of %s, %s: %v", names(l), names(set.Set{x}), got)
		}
		more := modelOf(append(slices.Clone(l), x))
		if got := set.Add(l, x); !slices.Equal(got, more.all()) {
			t.Fatalf("Add of %s, %s: %s", names(l), names(set.Set{x}), names(got))
		}
	}
}

// twoAsWords tells whether all calls of two lists are as the document's words
// say.
func twoAsWords(t *testing.T, a, b set.Set) {
	t.Helper()
	inA, inB := modelOf(a), modelOf(b)
	if got := set.Minus(a, b); !slices.Equal(got, inA.list(func(x sum.Sum) bool { return !inB[x] })) {
		t.Fatalf("Minus of %s; %s: %s", names(a), names(b), names(got))
	}
	if got := set.Both(a, b); !slices.Equal(got, inA.list(func(x sum.Sum) bool { return inB[x] })) {
		t.Fatalf("Both of %s; %s: %s", names(a), names(b), names(got))
	}
	if got := set.Either(a, b); !slices.Equal(got, modelOf(slices.Concat(a, b)).all()) {
		t.Fatalf("Either of %s; %s: %s", names(a), names(b), names(got))
	}
	if got := set.Same(a, b); got != (wantGood(a) && wantGood(b) && slices.Equal(a, b)) {
		t.Fatalf("Same of %s; %s: %v", names(a), names(b), got)
	}
}

// lists makes each list of at most n of some sums.
func lists(some []sum.Sum, n int) []set.Set {
	l := []set.Set{nil}
	from := 0
	for range n {
		to := len(l)
		for _, s := range l[from:to] {
			for _, x := range some {
				l = append(l, append(slices.Clone(s), x))
			}
		}
		from = to
	}
	return l
}

// P10.1: each list of at most five of four sums, and each two of at most four
// of three, told by the document's words.
func TestWords(t *testing.T) {
	some := []sum.Sum{{}, one("a"), one("b"), {31: 1}}
	for _, l := range lists(some, 5) {
		asWords(t, l, some)
	}
	few := lists(some[:3], 4)
	for _, a := range few {
		for _, b := range few {
			twoAsWords(t, a, b)
		}
	}
}

// P10.1: each two sets of six sums.
func TestWordsSets(t *testing.T) {
	all := list("a b c d e f")
	var l []set.Set
	for bits := range 64 {
		var s set.Set
		for i, x := range all {
			if bits>>i&1 == 1 {
				s = append(s, x)
			}
		}
		l = append(l, s)
	}
	for _, a := range l {
		asWords(t, a, all)
		for _, b := range l {
			twoAsWords(t, a, b)
		}
	}
}

// P10.1, R5: long lists with many twice, in any order, and what comes of them.
func TestWordsLong(t *testing.T) {
	seed := uint64(1)
	next := func(n int) int {
		seed = seed*6364136223846793005 + 1442695040888963407
		return int((seed >> 33) % uint64(n))
	}
	random := func() set.Set {
		l := make(set.Set, next(700))
		for i := range l {
			v := next(900)
			l[i] = sum.Sum{byte(v % 7), 9: byte(v % 11), 31: byte(v % 13)}
		}
		return l
	}
	for range 60 {
		a, b := random(), random()
		for _, x := range []set.Set{a, set.Of(a...)} {
			asWords(t, x, []sum.Sum{{}, {6}, {3, 9: 5, 31: 12}})
			twoAsWords(t, x, b)
			twoAsWords(t, b, x)
			twoAsWords(t, x, set.Of(b...))
			twoAsWords(t, x, x)
		}
	}
}
