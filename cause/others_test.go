package cause_test

import (
	"errors"
	"testing"

	"tallyman/api"
	"tallyman/cause"
)

// named is another's way to wrap an error.
type named struct{ err error }

func (n named) Error() string { return "named" }
func (n named) Unwrap() error { return n.err }

// lender tells a Cause when asked for one, though it wraps none.
type lender struct{ c *cause.Cause }

func (l lender) Error() string { return "lender" }
func (l lender) As(target any) bool {
	p, ok := target.(**cause.Cause)
	if ok {
		*p = l.c
	}
	return ok
}

// spread is of a kind that can't be compared.
type spread []string

func (s spread) Error() string { return "spread" }

// broken panics whatever it is asked.
type broken struct{ text *string }

func (b *broken) Error() string { return *b.text }
func (b *broken) Unwrap() error { return errors.New(*b.text) }

// liar hands out what was asked for, and panics then.
type liar struct{}

func (liar) Error() string { panic("liar") }
func (liar) As(target any) bool {
	switch p := target.(type) {
	case **cause.Cause:
		*p = &cause.Cause{Stage: "link", Step: 5}
	case *api.Errno:
		*p = api.ESUM
	}
	panic(nil)
}

// shy writes what was asked for, and says that there is none.
type shy struct{}

func (shy) Error() string { return "shy" }
func (shy) As(target any) bool {
	switch p := target.(type) {
	case **cause.Cause:
		*p = &cause.Cause{Stage: "link", Step: 5}
	case *api.Errno:
		*p = api.ESUM
	}
	return false
}

// R1: what panics in another's error is caught: it has no Cause, no number,
// and no words.
func TestOthersPanic(t *testing.T) {
	var nobody *broken
	for i, err := range []error{nobody, &broken{}, liar{}} {
		if cause.Code(err) != api.EARG || cause.Stage(err) != "" || cause.Steps(err) != nil || !cause.Once(err) {
			t.Errorf("number %d: %d, %q, %v", i, cause.Code(err), cause.Stage(err), cause.Steps(err))
		}
		e := cause.In("fetch", 4, err)
		if got := e.Error(); got != "fetch@4: " {
			t.Errorf("Error of number %d: %q", i, got)
		}
		outer := cause.In("fetch", 3, e)
		if cause.Code(outer) != api.EARG || cause.Stage(outer) != "fetch" || cause.Once(outer) {
			t.Errorf("number %d in two Causes: %d, %q", i, cause.Code(outer), cause.Stage(outer))
		}
		if got := cause.Steps(outer); len(got) != 2 || got[0] != 3 || got[1] != 4 {
			t.Errorf("Steps of number %d in two Causes: %v", i, got)
		}
		if (&cause.Cause{Stage: "link"}).Is(err) {
			t.Errorf("Is of number %d", i)
		}
	}
}

// P2.1: what another's error writes and takes back is not in it.
func TestOthersTakeBack(t *testing.T) {
	if got := cause.Code(shy{}); got != api.EARG {
		t.Errorf("Code: %d", got)
	}
	if cause.Stage(shy{}) != "" || cause.Steps(shy{}) != nil || !cause.Once(shy{}) {
		t.Errorf("Stage, Steps, Once: %q, %v", cause.Stage(shy{}), cause.Steps(shy{}))
	}
	if (&cause.Cause{Stage: "link"}).Is(shy{}) {
		t.Errorf("Is")
	}
}

// R1: errors that can't be compared do no harm.
func TestOthersUncomparable(t *testing.T) {
	e := cause.In("recon", 2, spread{"a"})
	if e.Error() != "recon@2: spread" || cause.Code(e) != api.EARG || cause.Stage(e) != "recon" {
		t.Errorf("%v, %d, %q", e, cause.Code(e), cause.Stage(e))
	}
	if errors.Is(e, spread{"a"}) || !errors.Is(e, &cause.Cause{Stage: "recon"}) {
		t.Errorf("errors.Is")
	}
}

// P2.1: the words of one that only lends a Cause are its own.
func TestOthersWords(t *testing.T) {
	inner := &cause.Cause{Stage: "link", Step: 1}
	if got := cause.In("recon", 2, lender{inner}).Error(); got != "recon@2: lender" {
		t.Errorf("Error: %q", got)
	}
	if got := cause.In("recon", 2, named{inner}).Error(); got != "recon@2: named" {
		t.Errorf("Error: %q", got)
	}
}
