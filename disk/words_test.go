package disk_test

import (
	"slices"
	"testing"

	"tallyman/api"
	"tallyman/disk"
	"tallyman/tree"
)

// model is a disk that has what lasts and what waits alone, and whose calls go
// by the document's words, sentence by sentence.
type model struct {
	lasts tree.Tree
	waits []disk.Change
	quota int
	on    bool
	n     int
	keep  []int
	torn  int
	count int64
}

// one does a change to a tree, by tree's call.
func one(t tree.Tree, c disk.Change) (tree.Tree, api.Errno) {
	switch c.Op {
	case 1:
		return tree.Put(t, c.Path, c.B)
	case 2:
		return tree.Make(t, c.Path)
	case 3:
		return tree.Remove(t, c.Path)
	case 4:
		return tree.Move(t, c.Path, c.To)
	}
	return t, api.EARG
}

// now is what lasts, and all that waits done to it.
func (m *model) now() tree.Tree {
	t := m.lasts
	for _, c := range m.waits {
		t, _ = one(t, c)
	}
	return t
}

// fused tells whether a fuse crashes in place of a call.
func (m *model) fused() bool {
	m.n--
	if m.n != 0 {
		return false
	}
	m.crash(m.keep, m.torn)
	return true
}

func (m *model) do(c disk.Change) api.Errno {
	if !m.on || m.fused() {
		return api.EDOWN
	}
	then, err := one(m.now(), c)
	if err != api.OK {
		return err
	}
	if tree.Bytes(then) > m.quota && tree.Bytes(then) > tree.Bytes(m.now()) {
		return api.EFULL
	}
	m.waits = append(m.waits, c)
	m.count++
	return api.OK
}

func (m *model) sync() api.Errno {
	if !m.on || m.fused() {
		return api.EDOWN
	}
	m.lasts, m.waits = m.now(), nil
	m.count++
	return api.OK
}

func (m *model) crash(keep []int, torn int) {
	if !m.on {
		return
	}
	for i, c := range m.waits {
		if !slices.Contains(keep, i) {
			continue
		}
		if c.Op == 1 && torn >= 0 {
			c.B = c.B[:min(torn, len(c.B))]
		}
		if then, err := one(m.lasts, c); err == api.OK {
			m.lasts = then
		}
	}
	m.waits, m.on, m.n = nil, false, 0
}

func (m *model) fuse(n int, keep []int, torn int) {
	if m.on {
		m.n, m.keep, m.torn = max(n, 0), keep, torn
	}
}

// step is what is done to a disk: Ops 1 to 4 and others are changes, 10 a
// Sync, 11 a Crash, 12 a Fuse, 13 an On.
type step struct {
	c       disk.Change
	n, torn int
	keep    []int
}

// both does a step to a disk and to a model of it, and sees that they agree.
func both(t *testing.T, d *disk.Disk, m *model, s step) api.Errno {
	t.Helper()
	var got, want api.Errno
	switch s.c.Op {
	case 10:
		got, want = d.Sync(), m.sync()
	case 11:
		d.Crash(s.keep, s.torn)
		m.crash(s.keep, s.torn)
	case 12:
		d.Fuse(s.n, s.keep, s.torn)
		m.fuse(s.n, s.keep, s.torn)
	case 13:
		d.On()
		m.on = true
	default:
		got, want = d.Do(s.c), m.do(s.c)
	}
	now, lasts := m.now(), m.lasts
	if got != want || d.Off() == m.on || d.Count() != m.count || !tree.Same(d.Now(), now) || !tree.Same(d.Lasts(), lasts) || tellChanges(d.Waits()) != tellChanges(m.waits) {
		t.Fatalf("%+v: %v, %s, %d; want %v, %s | %s | %s, %d", s, got, state(d), d.Count(), want, tell(now), tell(lasts), tellChanges(m.waits), m.count)
	}
	return got
}

// start makes a disk and its model.
func start(t *testing.T, base tree.Tree, quota int) (*disk.Disk, *model) {
	t.Helper()
	d, err := disk.New(base, quota)
	if err != api.OK {
		t.Fatalf("New: %v", err)
	}
	return d, &model{lasts: base, quota: quota, on: true}
}

// steps are those of which all scripts are made below.
func steps() []step {
	var l []step
	for _, c := range changes("1 a xy,1 b z,1 d/a xyz,1 A z,2 d,2 a,3 a,3 d,4 a b,4 b d/a,4 b b,0 a,10,13") {
		l = append(l, step{c: c})
	}
	for _, op := range []int{11, 12} {
		for n := range 4 {
			for _, keep := range [][]int{nil, {0}, {1}, {2, 0}, {2, 1, 0, 1, -1, 9}} {
				s := step{c: disk.Change{Op: op}, n: n, keep: keep, torn: 1 - n}
				if op == 12 || n < 2 {
					l = append(l, s)
				}
			}
		}
	}
	return l
}

// P9.1, R3, R6: all scripts of few steps, told by the document's words.
func TestWords(t *testing.T) {
	l := steps()
	bases := []tree.Tree{of("a=x"), of("b=zzz d/")}
	for _, base := range bases {
		for _, first := range l {
			for _, second := range l {
				for _, third := range l {
					d, m := start(t, base, 4)
					for _, s := range []step{first, second, third} {
						both(t, d, m, s)
					}
					both(t, d, m, step{c: disk.Change{Op: 10}})
				}
			}
		}
	}
}

// picker picks numbers, the same ones each time.
type picker uint32

func (p *picker) pick(n int) int {
	*p = *p*1103515245 + 12345
	return int(*p>>8) % n
}

// change picks a change.
func (p *picker) change(sizes []int) disk.Change {
	names := []string{"a", "b", "d", ".work", "a-b"}
	somewhere := func() string {
		at := names[p.pick(5)]
		for range p.pick(p.pick(4) + 1) {
			at += "/" + names[p.pick(5)]
		}
		return at
	}
	c := disk.Change{Op: p.pick(6), Path: somewhere()}
	if c.Op == 0 && p.pick(8) > 0 {
		c.Op = 1
	}
	switch c.Op {
	case 1:
		c.B = fill(sizes[p.pick(len(sizes))])
	case 4:
		c.To = somewhere()
	}
	return c
}

// keeps picks some places of those that wait, and of those that do not.
func (p *picker) keeps(waits int) []int {
	var l []int
	for range p.pick(waits + 3) {
		l = append(l, p.pick(waits+4)-2)
	}
	return l
}

// P9.1, R5: long walks, with what all goes on at once.
func TestWalk(t *testing.T) {
	for seed, quota := range []int{0, 9, 300, 5000, 16384} {
		p := picker(seed)
		d, m := start(t, of("a/ a/b=hello d="), quota)
		var told [16]int
		for range 8000 {
			s := step{c: p.change([]int{0, 1, 2, 5, 100, 700, 2048}), torn: p.pick(8) - 2}
			if n := p.pick(100); n < 4 {
				s.c = disk.Change{Op: 10}
			} else if n < 6 {
				s.c, s.keep = disk.Change{Op: 11}, p.keeps(len(d.Waits()))
			} else if n < 8 {
				s.c, s.n, s.keep = disk.Change{Op: 12}, p.pick(30)-3, p.keeps(20)
			} else if n < 12 {
				s.c = disk.Change{Op: 13}
			}
			told[both(t, d, m, s)]++
		}
		if told[api.OK] < 500 || told[api.EDOWN] < 500 || told[api.ENONE] < 100 || told[api.EFULL] < 100 && quota < 16384 {
			t.Errorf("quota %d: %d", quota, told)
		}
	}
}
