package proc_test

import (
	"slices"
	"testing"

	"cloister/api"
	"cloister/key"
	"cloister/proc"
	"cloister/store"
)

// Kinds of calls.
const (
	stateCall = iota
	newCall
	freeCall
	kidsCall
	pidCall
	fdCall
	setCall
	freeFdCall
)

// call is one call: p is a parent's of New, a pid of ByPid.
type call struct{ kind, p, fd, f int }

// answer has what a call answers at the fields of its kind.
type answer struct {
	n    int
	ok   bool
	kids []int
}

func (a answer) same(b answer) bool {
	return a.n == b.n && a.ok == b.ok && slices.Equal(a.kids, b.kids)
}

func (c call) do(v *store.View) answer {
	var a answer
	switch c.kind {
	case stateCall:
		a.n = proc.State(v, c.p)
	case newCall:
		a.n, a.ok = proc.New(v, c.p)
	case freeCall:
		a.ok = proc.Free(v, c.p)
	case kidsCall:
		a.kids = proc.Kids(v, c.p)
	case pidCall:
		a.n, a.ok = proc.ByPid(v, c.p)
	case fdCall:
		a.n, a.ok = proc.Fd(v, c.p, c.fd)
	case setCall:
		a.ok = proc.SetFd(v, c.p, c.fd, c.f)
	case freeFdCall:
		a.n, a.ok = proc.FreeFd(v, c.p)
	}
	return a
}

// telling is what a call of a store must answer, read and write: told from the store's values, in the chapter's order.
type telling struct {
	s      *store.Store
	read   []api.Key
	redo   []api.Write
	answer answer
}

func (g *telling) get(k api.Key) api.Value {
	g.read = append(g.read, k)
	return g.s.Get(k)
}

func (g *telling) put(k api.Key, x api.Value) { g.redo = append(g.redo, put(k, x)) }

// process is what p has, if it is one.
func (g *telling) process(p int) (api.Value, bool) {
	if !slices.Contains(all(), p) || g.get(table()).N[0]>>p&1 == 0 {
		return zero, false
	}
	x := g.get(object(p))
	return x, x.N[0] != 0
}

func (g *telling) tell(c call) {
	switch c.kind {
	case newCall:
		g.begin(c.p)
		return
	case kidsCall:
		g.kids(c.p)
		return
	case pidCall:
		g.byPid(c.p)
		return
	}
	x, is := g.process(c.p)
	if !is {
		return
	}
	switch c.kind {
	case stateCall:
		g.answer.n = x.N[0]
	case freeCall:
		g.free(c.p)
	case fdCall:
		g.answer.n, g.answer.ok = says(x, c.fd)
	case setCall:
		g.set(c, x)
	case freeFdCall:
		for fd := maxFd - 1; fd >= 0; fd-- {
			if _, taken := says(x, fd); !taken {
				g.answer.n, g.answer.ok = fd, true
			}
		}
	}
}

func (g *telling) begin(parent int) {
	used := g.get(table())
	for _, p := range all() {
		if used.N[0]>>p&1 == 0 {
			used.N[0] += 1 << p
			used.N[1]++
			g.put(table(), used)
			parent++
			g.put(object(p), val(alive, parent, used.N[1]))
			g.answer.n, g.answer.ok = p, true
			return
		}
	}
}

func (g *telling) free(p int) {
	used := g.get(table())
	used.N[0] -= 1 << p
	g.put(table(), used)
	g.put(object(p), zero)
	g.put(memory(p), zero)
	g.answer.ok = true
}

func (g *telling) kids(p int) {
	for _, k := range all() {
		if x, is := g.process(k); is && x.N[1]-1 == p {
			g.answer.kids = append(g.answer.kids, k)
		}
	}
}

func (g *telling) byPid(pid int) {
	for k := 0; k < maxProcs && !g.answer.ok; k++ {
		if x, is := g.process(k); is && x.N[2] == pid {
			g.answer.n, g.answer.ok = k, true
		}
	}
}

// says is the file that a descriptor of a process that has x says.
func says(x api.Value, fd int) (int, bool) {
	for i, n := range x.N[8:14] {
		if i == fd && 1 <= n && n <= maxFiles {
			return n - 1, true
		}
	}
	return 0, false
}

func (g *telling) set(c call, x api.Value) {
	for i := range x.N[8:14] {
		if i != c.fd || c.f >= maxFiles {
			continue
		}
		x.N[8+i] = 0
		if c.f >= 0 {
			x.N[8+i] = c.f + 1
		}
		g.put(object(c.p), x)
		g.answer.ok = true
	}
}

// wantTold does the call through a new view of s, and wants what is told of it.
func wantTold(t *testing.T, s *store.Store, c call) {
	t.Helper()
	g := telling{s: s}
	g.tell(c)
	slices.SortFunc(g.redo, func(a, b api.Write) int { return key.Place(a.Key) - key.Place(b.Key) })
	v := store.Look(s)
	if got := c.do(v); !got.same(g.answer) {
		t.Errorf("%v: %v, not %v", c, got, g.answer)
	}
	if got, want := v.Reads(), key.Sort(g.read); !slices.Equal(got, want) {
		t.Errorf("%v: read %v, not %v", c, got, want)
	}
	if got := v.Redo(); !slices.Equal(got, g.redo) {
		t.Errorf("%v: written %v, not %v", c, got, g.redo)
	}
	if t.Failed() {
		t.Fatalf("table %v, process %v", s.Get(table()), s.Get(object(c.p)))
	}
}

// calls are calls of all kinds about one number.
func calls(p int) []call {
	l := []call{{kind: stateCall, p: p}, {kind: newCall, p: p}, {kind: freeCall, p: p}, {kind: kidsCall, p: p}, {kind: pidCall, p: p}, {kind: freeFdCall, p: p}}
	for fd := -1; fd <= maxFd; fd++ {
		l = append(l, call{kind: fdCall, p: p, fd: fd})
		for _, f := range []int{-1, 0, 11, 12} {
			l = append(l, call{kind: setCall, p: p, fd: fd, f: f})
		}
	}
	return l
}

// Tables of all kinds, and odd ones, with objects that go with them or don't; all processes, and strangers.
func TestTellingsOfTables(t *testing.T) {
	s := full(0)
	for _, p := range all() {
		x := val(p%4, p/2+1, p%5+1)
		x.N[8], x.N[10], x.N[13] = p, 12, 13-p
		s.Put(object(p), x)
	}
	for _, high := range oddTables() {
		for used := 0; used < 1<<maxProcs; used += 1 + used%17 {
			set(s, table(), 0, high+used)
			for _, p := range all() {
				for _, c := range calls(p) {
					wantTold(t, s, c)
				}
			}
			for _, p := range strangers() {
				for _, c := range calls(p)[:8] {
					wantTold(t, s, c)
				}
			}
		}
	}
}

// States, parents and pids of any numbers.
func TestTellingsOfNumbers(t *testing.T) {
	some := append([]int{-1, 0, 1, 2, 3, 7, 8, 9}, far()...)
	s := full(odd | every)
	for i, a := range some {
		for j, b := range some {
			p := (i + j) % maxProcs
			x := s.Get(object(p))
			x.N[0], x.N[1], x.N[2] = a, b, a^b
			s.Put(object(p), x)
			set(s, table(), 1, b)
			set(s, table(), 0, odd|every-1<<(i%maxProcs))
			for _, n := range []int{p, b, b - 1, a ^ b, a} {
				for _, c := range calls(n)[:7] {
					wantTold(t, s, c)
				}
			}
		}
	}
}

// Descriptors of any numbers, and what they are set to.
func TestTellingsOfDescriptors(t *testing.T) {
	some := append([]int{-2, -1, 0, 1, 2, 11, 12, 13, 14}, far()...)
	s := full(odd | every)
	for p := range maxProcs {
		for fd := range maxFd {
			for _, n := range some {
				set(s, object(p), at(fd), n)
				wantTold(t, s, call{kind: fdCall, p: p, fd: fd})
				wantTold(t, s, call{kind: freeFdCall, p: p})
				for _, f := range some {
					wantTold(t, s, call{kind: setCall, p: p, fd: fd, f: f})
				}
			}
			set(s, object(p), at(fd), fd+1)
		}
		for _, fd := range noFds() {
			wantTold(t, s, call{kind: fdCall, p: p, fd: fd})
			wantTold(t, s, call{kind: setCall, p: p, fd: fd, f: p})
		}
	}
}
