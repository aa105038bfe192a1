package set_test

import (
	"slices"
	"testing"

	"tallyman/set"
	"tallyman/sum"
)

// calls are all that answer a set, of one list or of two.
func calls() []func(a, b set.Set) set.Set {
	return []func(a, b set.Set) set.Set{
		func(a, b set.Set) set.Set { return set.Of(a...) },
		func(a, b set.Set) set.Set { return set.Add(a, one("c")) },
		func(a, b set.Set) set.Set { return set.Add(a, one("z")) },
		func(a, b set.Set) set.Set { return set.Add(a, one("bb")) },
		set.Minus,
		set.Both,
		set.Either,
		func(a, b set.Set) set.Set { return set.Minus(a, nil) },
		func(a, b set.Set) set.Set { return set.Either(a, nil) },
		func(a, b set.Set) set.Set { return set.Either(nil, b) },
		func(a, b set.Set) set.Set { return set.Both(a, a) },
		func(a, b set.Set) set.Set { return set.Either(a, a) },
	}
}

// some are lists that are Good, and that are not.
func some() []string { return []string{"", "a", "b", "a b", "a b c", "b a", "a a", "c b a", "c a c b"} }

// roomy makes a list with spare room, and the whole of it.
func roomy(names string) (s, whole set.Set) {
	whole = append(list(names), list("y spare x room")...)
	return whole[:len(whole)-4], whole
}

// R3, R4: no call changes a list that is handed in, spare room included.
func TestLeaves(t *testing.T) {
	for _, na := range some() {
		for _, nb := range some() {
			a, wholeA := roomy(na)
			b, wholeB := roomy(nb)
			wasA, wasB := slices.Clone(wholeA), slices.Clone(wholeB)
			for _, call := range calls() {
				call(a, b)
			}
			set.Good(a)
			set.Has(a, one("b"))
			set.Same(a, b)
			set.Tell(a)
			if !slices.Equal(wholeA, wasA) || !slices.Equal(wholeB, wasB) {
				t.Errorf("of %s; %s: %s; %s", na, nb, names(wholeA), names(wholeB))
			}
		}
	}
}

// R4: what is answered is new memory, spare room too: it shares none with what
// is handed in, nor with another answer.
func TestNew(t *testing.T) {
	for _, na := range some() {
		for i, call := range calls() {
			a, wholeA := roomy(na)
			b, wholeB := roomy("a b c")
			wasA, wasB := slices.Clone(wholeA), slices.Clone(wholeB)
			got := call(a, b)
			want := slices.Clone(got)
			l := got[:cap(got)]
			for j := range l {
				l[j] = sum.Sum{255, 255}
			}
			if !slices.Equal(wholeA, wasA) || !slices.Equal(wholeB, wasB) {
				t.Errorf("call %d of %s answers what is handed in", i, na)
			}
			if again := call(a, b); !slices.Equal(again, want) {
				t.Errorf("call %d of %s: %s, want %s again", i, na, names(again), names(want))
			}
		}
	}
}

// R4: nothing that is handed in is kept: what is answered stays as it is.
func TestKeepsNot(t *testing.T) {
	for _, na := range some() {
		for i, call := range calls() {
			a, wholeA := roomy(na)
			b, wholeB := roomy("a b c")
			got := call(a, b)
			want := slices.Clone(got)
			for j := range wholeA {
				wholeA[j] = sum.Sum{255, 255}
			}
			for j := range wholeB {
				wholeB[j] = sum.Sum{255, 255}
			}
			if !slices.Equal(got, want) {
				t.Errorf("call %d of %s keeps what is handed in: %s", i, na, names(got))
			}
		}
	}
}
