package cause_test

import (
	"errors"
	"fmt"
	"math"
	"strings"
	"testing"

	"tallyman/api"
	"tallyman/cause"
)

// deep is how many parts may be nested in one another.
const deep = 1 << 16

// names has the stages, as the document writes them.
func names() []string { return strings.Fields("link hello recon fetch write check") }

// strangers has texts that are near to a stage, but none.
func strangers() []string {
	return []string{"", " ", "Link", "LINK", "lin", "links", "link ", " link", "check\x00", "ok", "peer", "linkhello", "l\xefnk"}
}

// nested puts one Cause at link in another, n in all, about err.
func nested(n int, err error) error {
	for i := range n {
		err = &cause.Cause{Stage: "link", Step: int64(n - 1 - i), Err: err}
	}
	return err
}

// P2.1: the stages and their order.
func TestStages(t *testing.T) {
	if got := strings.Join(cause.Stages, " "); got != "link hello recon fetch write check" {
		t.Errorf("Stages: %s", got)
	}
}

// P2.1: Stage, @, Step, a colon and a blank, Err's words.
func TestError(t *testing.T) {
	var none *cause.Cause
	for _, c := range []struct {
		err  error
		want string
	}{
		{cause.In("link", 7, api.ELOST), "link@7: error 12"},
		{&cause.Cause{Stage: "link", Step: 7, Err: api.ELOST}, "link@7: error 12"},
		{&cause.Cause{}, "@0: ok"},
		{&cause.Cause{Stage: "hello"}, "hello@0: ok"},
		{none, "ok"},
		{&cause.Cause{Stage: "write", Step: 3, Err: none}, "write@3: ok"},
		{&cause.Cause{Stage: "link", Step: -7, Err: api.OK}, "link@-7: error 0"},
		{cause.In("check", math.MaxInt64, api.Errno(-1)), "check@9223372036854775807: error -1"},
		{cause.In("check", math.MinInt64, errors.New("")), "check@-9223372036854775808: "},
		{&cause.Cause{Stage: "no stage @1: \x00\xff", Step: 1, Err: errors.New("x\ny")}, "no stage @1: \x00\xff@1: x\ny"},
		{cause.In("link", 100, cause.In("fetch", 20, api.ESUM)), "link@100: fetch@20: error 11"},
		{cause.In("link", 1, cause.In("link", 2, &cause.Cause{Stage: "recon", Step: 3})), "link@1: link@2: recon@3: ok"},
		{cause.In("hello", 1, fmt.Errorf("far: %w", cause.In("link", 2, api.ELOST))), "hello@1: far: link@2: error 12"},
		{fmt.Errorf("<%w>", cause.In("hello", 1, fmt.Errorf("(%w)", cause.In("link", 2, api.ELOST)))), "<hello@1: (link@2: error 12)>"},
		{cause.In("hello", 1, cause.In("recon", 2, fmt.Errorf("far: %w", errors.New("away")))), "hello@1: recon@2: far: away"},
	} {
		if got := c.err.Error(); got != c.want {
			t.Errorf("Error: %q, want %q", got, c.want)
		}
	}
	for _, s := range names() {
		if got := cause.In(s, 10, api.EVER).Error(); got != s+"@10: error 14" {
			t.Errorf("Error at %s: %q", s, got)
		}
	}
}

// P2.1: what is right in it, and no deeper.
func TestUnwrap(t *testing.T) {
	var none *cause.Cause
	if none.Unwrap() != nil || (&cause.Cause{Stage: "link", Step: 1}).Unwrap() != nil {
		t.Errorf("Unwrap of nothing")
	}
	if (&cause.Cause{}).Unwrap() != nil {
		t.Errorf("Unwrap of a Cause of zeros")
	}
	inner := cause.In("fetch", 2, api.ESUM)
	far := fmt.Errorf("far: %w", inner)
	if errors.Unwrap(inner) != api.ESUM {
		t.Errorf("Unwrap: %v", errors.Unwrap(inner))
	}
	if errors.Unwrap(cause.In("link", 1, inner)) != inner || errors.Unwrap(cause.In("link", 1, far)) != far {
		t.Errorf("Unwrap of a Cause in a Cause")
	}
	if got := (&cause.Cause{Err: none}).Unwrap(); got != error(none) {
		t.Errorf("Unwrap of a nil *Cause in a Cause: %v", got)
	}
}

// P2.1: Is asks for a *Cause with the same Stage and nothing in it.
func TestIs(t *testing.T) {
	var none *cause.Cause
	c := &cause.Cause{Stage: "link", Step: 7, Err: api.ELOST}
	for i, x := range []struct {
		target error
		want   bool
	}{
		{&cause.Cause{Stage: "link"}, true},
		{&cause.Cause{Stage: "link", Step: 7}, true},
		{&cause.Cause{Stage: "link", Step: 8}, true},
		{&cause.Cause{Stage: "link", Step: math.MinInt64}, true},
		{&cause.Cause{Stage: "link", Step: 7, Err: api.ELOST}, false},
		{&cause.Cause{Stage: "link", Err: api.OK}, false},
		{&cause.Cause{Stage: "link", Err: none}, false},
		{&cause.Cause{Stage: "link", Err: &cause.Cause{Stage: "link"}}, false},
		{&cause.Cause{Stage: "hello", Err: &cause.Cause{Stage: "link"}}, false},
		{c, false},
		{&cause.Cause{Stage: "hello"}, false},
		{&cause.Cause{Stage: "Link"}, false},
		{&cause.Cause{Stage: "lin"}, false},
		{&cause.Cause{Stage: "links"}, false},
		{&cause.Cause{}, false},
		{nil, false},
		{none, false},
		{api.ELOST, false},
		{errors.New("link"), false},
		{fmt.Errorf("far: %w", &cause.Cause{Stage: "link"}), false},
		{lender{&cause.Cause{Stage: "link"}}, false},
		{spread{"link"}, false},
	} {
		if got := c.Is(x.target); got != x.want {
			t.Errorf("Is of number %d: %v", i, got)
		}
	}
}

// P2.1: a Cause is asked by its own Stage, not by one of Stages, and not by
// what is in it; of a nil one nothing is so.
func TestIsReceivers(t *testing.T) {
	var none *cause.Cause
	for _, s := range append(names(), strangers()...) {
		c := &cause.Cause{Stage: s, Step: 1}
		for _, o := range append(names(), strangers()...) {
			if got := c.Is(&cause.Cause{Stage: o, Step: 2}); got != (s == o) {
				t.Errorf("Is at %q of %q: %v", s, o, got)
			}
		}
		if none.Is(c) {
			t.Errorf("Is of a nil *Cause at %q", s)
		}
	}
	if none.Is(nil) || none.Is(none) || none.Is(&cause.Cause{}) || none.Is(api.OK) {
		t.Errorf("Is of a nil *Cause")
	}
	both := &cause.Cause{Stage: "link", Err: &cause.Cause{Stage: "hello"}}
	if both.Is(&cause.Cause{Stage: "hello"}) {
		t.Errorf("Is asks deeper than itself")
	}
}

// P2.1: errors.Is finds a stage however deep it is.
func TestIsByErrors(t *testing.T) {
	e := fmt.Errorf("a: %w", cause.In("write", 3, fmt.Errorf("b: %w", cause.In("fetch", 2, api.ESUM))))
	for _, s := range names() {
		want := s == "write" || s == "fetch"
		if got := errors.Is(e, &cause.Cause{Stage: s}); got != want {
			t.Errorf("errors.Is at %s: %v", s, got)
		}
		if errors.Is(e, &cause.Cause{Stage: s, Err: api.ESUM}) {
			t.Errorf("errors.Is at %s of a Cause with an error", s)
		}
	}
	if !errors.Is(e, api.ESUM) || errors.Is(e, api.ELOST) || errors.Is(e, nil) {
		t.Errorf("errors.Is of a number")
	}
	if errors.Is(nil, &cause.Cause{Stage: "link"}) || errors.Is(api.ELOST, &cause.Cause{}) {
		t.Errorf("errors.Is without a Cause")
	}
}

// P2.1: a *Cause with all that is handed in; check of a strange stage.
func TestIn(t *testing.T) {
	for _, s := range append(names(), strangers()...) {
		want := "check"
		for _, n := range names() {
			if s == n {
				want = n
			}
		}
		for _, step := range []int64{0, 1, -1, 9999, math.MaxInt64, math.MinInt64} {
			got, ok := cause.In(s, step, api.EFULL).(*cause.Cause)
			if !ok || *got != (cause.Cause{Stage: want, Step: step, Err: api.EFULL}) {
				t.Errorf("In(%q, %d, ..): %+v", s, step, got)
			}
			if cause.In(s, step, nil) != nil {
				t.Errorf("In(%q, %d, nil) is not nil", s, step)
			}
		}
	}
}

// P2.1: any error is wrapped as it is, one that is a Cause too.
func TestInKeepsError(t *testing.T) {
	var none *cause.Cause
	inner := cause.In("link", 7, api.ELOST)
	for i, err := range []error{api.OK, api.ELOST, errors.New("x"), inner, fmt.Errorf("far: %w", inner), none} {
		got, ok := cause.In("link", 7, err).(*cause.Cause)
		if !ok || got.Err != err || got.Stage != "link" || got.Step != 7 {
			t.Errorf("In of number %d: %+v", i, got)
		}
	}
	if cause.In("link", 7, api.ELOST) == cause.In("link", 7, api.ELOST) {
		t.Errorf("In answers one Cause twice")
	}
	if inner.Error() != "link@7: error 12" {
		t.Errorf("In changes what it wraps: %v", inner)
	}
}

// P2.1: the number, wherever it lies; OK of nil; EARG without one.
func TestCode(t *testing.T) {
	var none *cause.Cause
	number := api.EFULL
	for i, c := range []struct {
		err  error
		want api.Errno
	}{
		{nil, api.OK},
		{none, api.EARG},
		{errors.New("error 12"), api.EARG},
		{fmt.Errorf("far: %w", errors.New("x")), api.EARG},
		{&cause.Cause{}, api.EARG},
		{&cause.Cause{Stage: "link", Err: none}, api.EARG},
		{cause.In("link", 7, errors.New("x")), api.EARG},
		{&number, api.EARG},
		{cause.In("link", 7, api.ELOST), api.ELOST},
		{cause.In("no stage", 7, api.ELOST), api.ELOST},
		{cause.In("link", 7, cause.In("hello", 8, cause.In("link", 9, api.EVER))), api.EVER},
		{fmt.Errorf("far: %w", api.ESUM), api.ESUM},
		{fmt.Errorf("a: %w", cause.In("link", 7, fmt.Errorf("b: %w", api.EPEER))), api.EPEER},
		{lender{&cause.Cause{Stage: "link", Err: api.EKIDS}}, api.EARG},
		{named{api.EKIND}, api.EKIND},
	} {
		if got := cause.Code(c.err); got != c.want {
			t.Errorf("Code of number %d: %d, want %d", i, got, c.want)
		}
	}
	for _, n := range []api.Errno{-1, 16, math.MaxInt, math.MinInt, 0, 1, 2, 3, 4, 5, 6, 7, 8, 9, 10, 11, 12, 13, 14, 15} {
		if got := cause.Code(n); got != n {
			t.Errorf("Code of %d: %d", n, got)
		}
		if got := cause.Code(cause.In("write", 1, n)); got != n {
			t.Errorf("Code of %d in a Cause: %d", n, got)
		}
	}
}

// chains has errors, and the stages and steps that are in them.
func chains() []struct {
	err    error
	stages string
	steps  []int64
} {
	var none *cause.Cause
	three := cause.In("write", -3, cause.In("fetch", 0, cause.In("link", 9, api.ELOST)))
	far := fmt.Errorf("a: %w", cause.In("write", 5, fmt.Errorf("b: %w", fmt.Errorf("c: %w", cause.In("recon", 5, api.EPEEL)))))
	return []struct {
		err    error
		stages string
		steps  []int64
	}{
		{nil, "", nil},
		{none, "", nil},
		{api.ELOST, "", nil},
		{errors.New("link@7: error 12"), "", nil},
		{fmt.Errorf("far: %w", api.ELOST), "", nil},
		{cause.In("link", 7, api.ELOST), "link", []int64{7}},
		{cause.In("links", 7, errors.New("x")), "check", []int64{7}},
		{&cause.Cause{Stage: "hello"}, "hello", []int64{0}},
		{&cause.Cause{Stage: "hello", Step: 4, Err: none}, "hello", []int64{4}},
		{cause.In("hello", 4, cause.In("write", 2, none)), "hello write", []int64{4, 2}},
		{fmt.Errorf("far: %w", none), "", nil},
		{three, "write fetch link", []int64{-3, 0, 9}},
		{cause.In("write", math.MaxInt64, three), "write write fetch link", []int64{math.MaxInt64, -3, 0, 9}},
		{cause.In("link", math.MinInt64, three), "link write fetch link", []int64{math.MinInt64, -3, 0, 9}},
		{cause.In("check", 1, cause.In("", 1, api.OK)), "check check", []int64{1, 1}},
		{cause.In("check", 1, &cause.Cause{Stage: "Check", Step: 2}), "check Check", []int64{1, 2}},
		{&cause.Cause{Stage: "x y", Err: &cause.Cause{Stage: "x y", Step: 1}}, "x-y x-y", []int64{0, 1}},
		{far, "write recon", []int64{5, 5}},
		{fmt.Errorf("d: %w", cause.In("recon", 6, far)), "recon write recon", []int64{6, 5, 5}},
		{lender{&cause.Cause{Stage: "link", Step: 1}}, "link", []int64{1}},
		{named{cause.In("fetch", 8, api.ESUM)}, "fetch", []int64{8}},
	}
}

// P2.1: the stage of the innermost; none of none.
func TestStage(t *testing.T) {
	for i, c := range chains() {
		want := c.stages[strings.LastIndexByte(c.stages, ' ')+1:]
		want = strings.ReplaceAll(want, "-", " ")
		if got := cause.Stage(c.err); got != want {
			t.Errorf("Stage of number %d: %q, want %q", i, got, want)
		}
	}
	if got := cause.Stage(cause.In("link", 1, &cause.Cause{Step: 2, Err: api.ELOST})); got != "" {
		t.Errorf("Stage of an innermost Cause without one: %q", got)
	}
}

// P2.1: every step, from outside in.
func TestSteps(t *testing.T) {
	for i, c := range chains() {
		got := cause.Steps(c.err)
		if len(got) != len(c.steps) {
			t.Errorf("Steps of number %d: %v, want %v", i, got, c.steps)
			continue
		}
		for j, step := range c.steps {
			if got[j] != step {
				t.Errorf("Steps of number %d: %v, want %v", i, got, c.steps)
			}
		}
	}
}

// P2.1: is no stage there twice?
func TestOnce(t *testing.T) {
	for i, c := range chains() {
		had, want := map[string]int{}, true
		for _, s := range strings.Fields(c.stages) {
			had[s]++
			want = want && had[s] == 1
		}
		if got := cause.Once(c.err); got != want {
			t.Errorf("Once of number %d: %v, want %v", i, got, want)
		}
	}
	var err error = api.EFULL
	for i, s := range names() {
		err = fmt.Errorf("far: %w", cause.In(s, 1, err))
		if !cause.Once(err) {
			t.Errorf("Once of the first %d stages", i+1)
		}
	}
	for _, s := range names() {
		if cause.Once(cause.In(s, 2, err)) {
			t.Errorf("Once of all stages and %s", s)
		}
	}
}

// R4, R5: each answer is new memory, and asking changes nothing.
func TestAnswersAreNew(t *testing.T) {
	e := cause.In("write", 1, cause.In("fetch", 2, cause.In("link", 3, api.ELOST)))
	was := *e.(*cause.Cause)
	first := cause.Steps(e)
	for i := range first[:cap(first)] {
		first[:cap(first)][i] = 99
	}
	if got := cause.Steps(e); len(got) != 3 || got[0] != 1 || got[1] != 2 || got[2] != 3 {
		t.Errorf("Steps hang on an earlier answer: %v", got)
	}
	e.(*cause.Cause).Is(&cause.Cause{Stage: "write"})
	if cause.Stage(e) != "link" || !cause.Once(e) || cause.Code(e) != api.ELOST {
		t.Errorf("Stage, Once, Code: %v", e)
	}
	if *e.(*cause.Cause) != was || e.Error() != "write@1: fetch@2: link@3: error 12" {
		t.Errorf("asking changes an error: %v", e)
	}
	TestStages(t)
}

// R1: as many in one another as may be.
func TestDeep(t *testing.T) {
	e := nested(deep, api.EPEER)
	text := e.Error()
	if !strings.HasPrefix(text, "link@0: link@1: ") || !strings.HasSuffix(text, "link@65535: error 13") {
		t.Errorf("Error of %d Causes: %d bytes", deep, len(text))
	}
	if strings.Count(text, ": ") != deep {
		t.Errorf("Error of %d Causes tells %d", deep, strings.Count(text, ": "))
	}
	if cause.Code(e) != api.EPEER || cause.Stage(e) != "link" || cause.Once(e) {
		t.Errorf("Code, Stage, Once of %d Causes", deep)
	}
	steps := cause.Steps(e)
	if len(steps) != deep || steps[0] != 0 || steps[deep-1] != deep-1 {
		t.Errorf("Steps of %d Causes: %d", deep, len(steps))
	}
	if errors.Is(e, &cause.Cause{Stage: "hello"}) || !errors.Is(e, api.EPEER) {
		t.Errorf("errors.Is of %d Causes", deep)
	}
}
