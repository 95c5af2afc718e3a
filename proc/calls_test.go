package proc_test

import (
	"testing"

	"cloister/api"
	"cloister/proc"
	"cloister/store"
)

// person is a process, told without objects: -1 is no parent, and no file.
type person struct {
	state, parent, pid int
	files              [maxFd]int
	bytes              string
}

// crowd has processes, seen through one view after the other, and what they must be.
type crowd struct {
	row  []api.Key
	s    *store.Store
	v    *store.View
	are  map[int]person
	last int
}

func newCrowd(row []api.Key) *crowd {
	s := store.New()
	return &crowd{row: row, s: s, v: store.Look(s), are: map[int]person{}}
}

func (g *crowd) begin(t *testing.T, parent int) {
	t.Helper()
	for _, p := range all() {
		if _, is := g.are[p]; is {
			continue
		}
		g.last++
		g.are[p] = person{state: alive, parent: parent, pid: g.last, files: [maxFd]int{-1, -1, -1, -1, -1, -1}}
		wantNew(t, g.v, parent, p)
		return
	}
	wantNew(t, g.v, parent, -1)
}

func (g *crowd) free(t *testing.T, p int) {
	t.Helper()
	_, is := g.are[p]
	wantFree(t, g.v, p, is)
	delete(g.are, p)
}

func (g *crowd) setFd(t *testing.T, p, fd, f int) {
	t.Helper()
	x, is := g.are[p]
	is = is && f < maxFiles
	wantSetFd(t, g.v, p, fd, f, is)
	if is {
		x.files[fd] = max(f, -1)
		g.are[p] = x
	}
}

// dies lets p be a zombie that has bytes, as others do it.
func (g *crowd) dies(p int) {
	x, is := g.are[p]
	if !is {
		return
	}
	x.state, x.bytes = zombie, "bytes"
	g.are[p] = x
	o, m := g.v.Get(object(p)), g.v.Get(memory(p))
	o.N[0], m.S = zombie, "bytes"
	g.v.Put(object(p), o)
	g.v.Put(memory(p), m)
}

// settle puts what was done into the store, and goes on through a new view.
func (g *crowd) settle() {
	lay(g.s, g.v)
	g.v = store.Look(g.s)
}

// has is what an object must be.
func (g *crowd) has(k api.Key) api.Value {
	var x api.Value
	switch p, is := g.are[k.N]; {
	case k == table():
		x.N[1] = g.last
		for p := range g.are {
			x.N[0] += 1 << p
		}
	case is && k.Kind == api.KProc:
		x = val(p.state, p.parent+1, p.pid)
		for fd, f := range p.files {
			x.N[8+fd] = f + 1
		}
	case is && k.Kind == api.KMem:
		x.S = p.bytes
	}
	return x
}

// check holds all objects, and what is told of the processes, against what they must be.
func (g *crowd) check(t *testing.T) {
	t.Helper()
	for _, p := range all() {
		x, is := g.are[p]
		wantState(t, g.v, p, x.state)
		least := -1
		for fd := maxFd - 1; is && fd >= 0; fd-- {
			wantFd(t, g.v, p, fd, x.files[fd])
			if x.files[fd] < 0 {
				least = fd
			}
		}
		wantFreeFd(t, g.v, p, least)
	}
	for parent := -1; parent <= maxProcs; parent++ {
		var kids []int
		for _, p := range all() {
			if x, is := g.are[p]; is && x.parent == parent {
				kids = append(kids, p)
			}
		}
		wantKids(t, g.v, parent, kids...)
	}
	for pid := range g.last + 2 {
		who := -1
		for p, x := range g.are {
			if x.pid == pid {
				who = p
			}
		}
		if p, ok := proc.ByPid(g.v, pid); p != max(who, 0) || ok != (who >= 0) {
			t.Errorf("ByPid(%d): %d, %v, not %d", pid, p, ok, who)
		}
	}
	for _, k := range g.row {
		if got := g.v.Get(k); got != g.has(k) {
			t.Errorf("object %v has %v, not %v", k, got, g.has(k))
		}
	}
}

// How many kinds of calls there are: those of all, and those about one process.
const (
	wholeCalls = 2
	ownCalls   = 6
)

// call does one call of all, or about one of the processes.
func (g *crowd) call(t *testing.T, c int) {
	t.Helper()
	switch c {
	case 0:
		g.begin(t, -1)
		return
	case 1:
		g.settle()
		return
	}
	p := (c - wholeCalls) / ownCalls
	switch (c - wholeCalls) % ownCalls {
	case 0:
		g.begin(t, p)
	case 1:
		g.free(t, p)
	case 2:
		g.dies(p)
	case 3:
		g.setFd(t, p, p%maxFd, p+4)
	case 4:
		g.setFd(t, p, (c+len(g.are))%maxFd, (c+g.last)%14)
	case 5:
		g.setFd(t, p, (c+g.last)%maxFd, -1-len(g.are))
	}
}

// All rows of three calls about the first three processes, behind some beginnings.
func TestAllShortRowsOfCalls(t *testing.T) {
	const base = wholeCalls + 3*ownCalls
	objects := row()
	for _, begun := range [][]int{{}, {0, 2}, {0, 2, 8, 3}, {0, 2, 2, 2, 2, 2, 2, 2}} {
		for code := range base * base * base {
			g := newCrowd(objects)
			for _, c := range begun {
				g.call(t, c)
			}
			for _, c := range []int{code % base, code / base % base, code / base / base} {
				g.call(t, c)
			}
			if g.check(t); t.Failed() {
				t.Fatalf("begun %v, calls %d", begun, code)
			}
		}
	}
}

// Long rows of calls about all processes: which, is told by a sum that goes round.
func TestLongRowsOfCalls(t *testing.T) {
	for start := range 20 {
		g := newCrowd(row())
		n := uint32(start)
		for i := range 1500 {
			n = n*1664525 + 1013904223
			g.call(t, int(n>>8)%(wholeCalls+maxProcs*ownCalls))
			if i%20 == 0 {
				g.check(t)
			}
		}
		if g.check(t); t.Failed() {
			t.Fatalf("start %d", start)
		}
	}
}

// When all have gone all is as at first, but the last pid.
func TestNothingIsLeft(t *testing.T) {
	for start := range 40 {
		g := newCrowd(row())
		n := uint32(start)
		for range 200 {
			n = n*1664525 + 1013904223
			g.call(t, int(n>>8)%(wholeCalls+maxProcs*ownCalls))
		}
		for _, p := range all() {
			g.free(t, p)
			wantNone(t, g.v, p)
		}
		for _, k := range g.row {
			if k == table() {
				wantHas(t, g.v, k, tableVal(0, g.last))
			} else {
				wantHas(t, g.v, k, zero)
			}
		}
	}
}

// Each call about each number, of a store where all objects have something: no other object is touched by it.
func TestNoOtherIsTouched(t *testing.T) {
	for _, p := range all() {
		for _, used := range []int{odd | every, odd | every - 1<<p} {
			s := full(used)
			for _, c := range calls(p) {
				v := store.Look(s)
				c.do(v)
				for _, k := range row() {
					if k != table() && k != object(p) && k != memory(p) {
						wantHas(t, v, k, s.Get(k))
					}
				}
			}
		}
	}
}
