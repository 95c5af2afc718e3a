package space_test

import (
	"slices"
	"testing"

	"cloister/api"
	"cloister/space"
	"cloister/store"
)

// Where a page may be, beside whose it is: nowhere, if the pool never had it.
const (
	nowhere = -3 + iota
	isFree
	isAway
)

// village has processes with pages, seen through one view after the other, and what they must be, told without objects.
type village struct {
	row   []api.Key
	s     *store.Store
	v     *store.View
	where [maxPages]int
	pages [maxProcs][]int
	bytes [maxProcs]string
	away  []int // those on their way, in the order in which they went
}

// newVillage has as many processes, and these pages, free.
func newVillage(row []api.Key, processes int, free ...int) *village {
	g := &village{row: row, s: some(processes, word(free...), 0)}
	g.v = store.Look(g.s)
	for page := range g.where {
		g.where[page] = nowhere
	}
	for _, page := range free {
		g.where[page] = isFree
	}
	return g
}

// free are the pages that are free, rising.
func (g *village) free() []int {
	var l []int
	for page, where := range g.where {
		if where == isFree {
			l = append(l, page)
		}
	}
	return l
}

func (g *village) grow(t *testing.T, p, n int) {
	t.Helper()
	free := g.free()
	can := n >= 0 && len(g.pages[p])+n <= maxSize && n <= len(free)
	wantGrow(t, g.v, p, n, can)
	if !can {
		return
	}
	for _, page := range free[:n] {
		g.where[page] = p
		g.pages[p] = append(g.pages[p], page)
		g.bytes[p] += noughts(pageLen)
	}
}

func (g *village) shrink(t *testing.T, p, n int) {
	t.Helper()
	left := len(g.pages[p]) - n
	if n < 0 || left < 0 {
		wantNoShrink(t, g.v, p, n)
		return
	}
	gone := g.pages[p][left:]
	wantShrink(t, g.v, p, gone...)
	for _, page := range gone {
		g.where[page] = isAway
		g.away = append(g.away, page)
	}
	g.pages[p] = g.pages[p][:left:left]
	g.bytes[p] = g.bytes[p][:left*pageLen]
}

// back gives back the n that went first, and tells others, which aren't on their way, beside them.
func (g *village) back(n int) {
	n = min(n, len(g.away))
	l := slices.Clone(g.away[:n])
	for page, where := range g.where {
		if where != isAway {
			l = append(l, page, page-64, page+64)
		}
	}
	space.Back(g.v, l)
	for _, page := range g.away[:n] {
		g.where[page] = isFree
	}
	g.away = g.away[n:]
}

// fill lets p's memory have bytes, as others do it.
func (g *village) fill(p int) {
	g.bytes[p] = ink(len(g.bytes[p]))
	x := g.v.Get(memory(p))
	x.S = g.bytes[p]
	g.v.Put(memory(p), x)
}

// settle puts what was done into the store, and goes on through a new view.
func (g *village) settle() {
	lay(g.s, g.v)
	g.v = store.Look(g.s)
}

// has is what an object must be: what is neither the pool nor a process's is as it was made.
func (g *village) has(k api.Key) api.Value {
	x := g.s.Get(k)
	switch k.Kind {
	case api.KPool:
		x = zero
		for page, where := range g.where {
			switch where {
			case isFree:
				x.N[0] |= word(page)
			case isAway:
				x.N[1] |= word(page)
			}
		}
	case api.KProc:
		x.S = raw(g.pages[k.N]...)
	case api.KMem:
		x.S = g.bytes[k.N]
	}
	return x
}

// check holds all objects, and what is told of pages, against what they must be, and asks that each page is free, or on
// its way, or one process's.
func (g *village) check(t *testing.T) {
	t.Helper()
	var places [maxPages]int
	x := g.v.Get(pool())
	for page := range places {
		places[page] = x.N[0]>>page&1 + x.N[1]>>page&1
	}
	for _, p := range all() {
		wantPages(t, g.v, p, g.pages[p]...)
		for _, page := range space.Pages(g.v, p) {
			places[page]++
		}
	}
	for page, many := range places {
		if many > 1 || (many == 1) == (g.where[page] == nowhere) {
			t.Errorf("page %d is at %d places", page, many)
		}
	}
	wantFree(t, g.v, len(g.free()))
	for _, k := range g.row {
		if got := g.v.Get(k); got != g.has(k) {
			t.Errorf("object %v has %v, not %v", k, got, g.has(k))
		}
	}
}

// How many kinds of calls there are: those of all, and those about one process.
const (
	wholeCalls = 4
	ownCalls   = 7
)

// call does one call of all, or about one of the processes.
func (g *village) call(t *testing.T, c int) {
	t.Helper()
	switch c {
	case 0:
		g.settle()
		return
	case 1, 2:
		g.back(c)
		return
	case 3:
		g.back(maxPages)
		return
	}
	p := (c - wholeCalls) / ownCalls
	switch n := (c - wholeCalls) % ownCalls; n {
	case 0:
		g.fill(p)
	case 1, 2, 3:
		g.grow(t, p, n)
	case 4, 5:
		g.shrink(t, p, n-3)
	case 6:
		g.shrink(t, p, len(g.pages[p]))
	}
}

// All rows of three calls about two processes, behind some beginnings, with pools of few pages.
func TestP16_5AllShortRowsOfCalls(t *testing.T) {
	const base = wholeCalls + 2*ownCalls
	objects := row()
	for _, free := range [][]int{{1, 63}, {0, 1, 2, 3, 4}} {
		for _, begun := range [][]int{{}, {6, 13}, {5, 4, 13, 8, 0}, {7, 7, 9, 12}} {
			for code := range base * base * base {
				g := newVillage(objects, 2, free...)
				for _, c := range begun {
					g.call(t, c)
				}
				for _, c := range []int{code % base, code / base % base, code / base / base} {
					g.call(t, c)
				}
				if g.check(t); t.Failed() {
					t.Fatalf("free %v, begun %v, calls %d", free, begun, code)
				}
			}
		}
	}
}

// Long rows of calls about all processes: which, is told by a sum that goes round. One pool has all pages, the others
// fewer than all that processes may have.
func TestP16_5LongRowsOfCalls(t *testing.T) {
	for start, free := range [][]int{from(0, 64), from(34, 30), from(0, 40), {0, 2, 4, 8, 16, 32, 33, 62, 63}, {63}, {}, slices.Concat(from(0, 8), from(20, 8), from(60, 4))} {
		for again := range 3 {
			g := newVillage(row(), maxProcs, free...)
			n := uint32(start + 100*again)
			for i := range 2000 {
				n = n*1664525 + 1013904223
				g.call(t, int(n>>8)%(wholeCalls+maxProcs*ownCalls))
				if i%10 == 0 {
					g.check(t)
				}
			}
			if g.check(t); t.Failed() {
				t.Fatalf("start %d, %d", start, again)
			}
		}
	}
}

// When all have shrunk to none, and all pages are back, all is as at first.
func TestNothingIsLeft(t *testing.T) {
	for start := range 40 {
		g := newVillage(row(), maxProcs, from(start/2, 25)...)
		was := g.s.Twin()
		n := uint32(start)
		for range 200 {
			n = n*1664525 + 1013904223
			g.call(t, int(n>>8)%(wholeCalls+maxProcs*ownCalls))
		}
		for _, p := range all() {
			g.shrink(t, p, len(g.pages[p]))
		}
		g.back(maxPages)
		for _, k := range g.row {
			wantHas(t, g.v, k, was.Get(k))
		}
	}
}

// Each call about each process, of a store where all objects have something: no other object is touched by it.
func TestNoOtherIsTouched(t *testing.T) {
	for had := range maxSize + 1 {
		s := full(had)
		for _, p := range all() {
			for _, c := range calls(p) {
				v := store.Look(s)
				c.do(v)
				for _, k := range row() {
					if k != pool() && k != process(p) && k != memory(p) {
						wantHas(t, v, k, s.Get(k))
					}
				}
			}
		}
	}
}
