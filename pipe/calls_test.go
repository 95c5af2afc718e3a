package pipe_test

import (
	"testing"

	"cloister/api"
	"cloister/store"
)

// plain is what a pipe must be, told without objects.
type plain struct {
	there            bool
	readers, writers int
	bytes            []byte
}

// stage has pipes, seen through one view after the other, and what they must be.
type stage struct {
	s     *store.Store
	v     *store.View
	pipes [maxPipes]plain
	next  byte // which byte is written next: no two in a pipe are the same
}

func newStage() *stage {
	s := store.New()
	return &stage{s: s, v: store.Look(s)}
}

func (g *stage) alloc(t *testing.T) {
	t.Helper()
	for q := range g.pipes {
		if !g.pipes[q].there {
			wantAlloc(t, g.v, q)
			g.pipes[q] = plain{there: true, readers: 1, writers: 1}
			return
		}
	}
	wantAlloc(t, g.v, -1)
}

func (g *stage) ends(t *testing.T, q int, writer bool, by int) {
	t.Helper()
	p := &g.pipes[q]
	wantEnds(t, g.v, q, writer, by, p.there)
	if !p.there {
		return
	}
	if writer {
		p.writers += by
	} else {
		p.readers += by
	}
	if p.readers < 1 && p.writers < 1 {
		*p = plain{}
	}
}

func (g *stage) write(t *testing.T, q, size int) {
	t.Helper()
	d := make([]byte, size)
	for i := range d {
		d[i] = g.next
		g.next++
	}
	p := &g.pipes[q]
	if !p.there || p.readers < 1 {
		wantWrite(t, g.v, q, string(d), -1, fails)
		return
	}
	taken := 0
	for _, c := range d {
		if len(p.bytes) < maxPipe {
			p.bytes = append(p.bytes, c)
			taken++
		}
	}
	if taken == 0 && size > 0 {
		wantWrite(t, g.v, q, string(d), 0, blocks)
		return
	}
	wantWrite(t, g.v, q, string(d), taken, done)
}

func (g *stage) read(t *testing.T, q, n int) {
	t.Helper()
	p := &g.pipes[q]
	if !p.there || n < 0 {
		wantRead(t, g.v, q, n, "", fails)
		return
	}
	if n > 0 && len(p.bytes) == 0 && p.writers > 0 {
		wantRead(t, g.v, q, n, "", blocks)
		return
	}
	var out []byte
	for ; n > 0 && len(p.bytes) > 0; n-- {
		out = append(out, p.bytes[0])
		p.bytes = p.bytes[1:]
	}
	wantRead(t, g.v, q, len(out)+n, string(out), done)
}

// settle puts what was done into the store, and goes on through a new view.
func (g *stage) settle() {
	lay(g.s, g.v)
	g.v = store.Look(g.s)
}

// check holds all pipes and the table against what they must be.
func (g *stage) check(t *testing.T) {
	t.Helper()
	used := zero
	for q, p := range g.pipes {
		wantIs(t, g.v, q, p.there)
		if p.there {
			used.N[0] += 1 << q
			wantHas(t, g.v, object(q), val(p.readers, p.writers, string(p.bytes)))
		} else {
			wantHas(t, g.v, object(q), zero)
		}
	}
	wantHas(t, g.v, table(), used)
	for _, k := range row() {
		if k.Kind != api.KPipes && k.Kind != api.KPipe {
			wantHas(t, g.v, k, zero)
		}
	}
}

const kindsOfCalls = 13

// call does one call about pipe q.
func (g *stage) call(t *testing.T, c, q int) {
	t.Helper()
	switch c {
	case 0:
		g.alloc(t)
	case 1:
		g.ends(t, q, true, 1)
	case 2:
		g.ends(t, q, false, 1)
	case 3:
		g.ends(t, q, true, -1)
	case 4:
		g.ends(t, q, false, -1)
	case 5:
		g.write(t, q, 3)
	case 6:
		g.write(t, q, 15)
	case 7:
		g.write(t, q, 0)
	case 8:
		g.read(t, q, 2)
	case 9:
		g.read(t, q, 16)
	case 10:
		g.read(t, q, 0)
	case 11:
		g.read(t, q, -1)
	case 12:
		g.settle()
	}
}

// All rows of four calls about one pipe, and all rows of three about two, in a new store and behind both were had.
func TestAllShortRowsOfCalls(t *testing.T) {
	for begun := range 2 {
		for _, about := range []struct{ pipes, long int }{{1, 4}, {2, 3}} {
			base := about.pipes * kindsOfCalls
			rows := 1
			for range about.long {
				rows *= base
			}
			for code := range rows {
				g := newStage()
				for range 2 * begun {
					g.alloc(t)
				}
				rest := code
				for range about.long {
					g.call(t, rest%base/about.pipes, rest%about.pipes)
					rest /= base
				}
				g.check(t)
				if t.Failed() {
					t.Fatalf("begun %d, calls %d of %d pipes", begun, code, about.pipes)
				}
			}
		}
	}
}

// Long rows of calls about all pipes: which, is told by a sum that goes round.
func TestLongRowsOfCalls(t *testing.T) {
	for start := range 20 {
		g := newStage()
		n := uint32(start)
		for i := range 2000 {
			n = n*1664525 + 1013904223
			g.call(t, int(n>>8)%kindsOfCalls, int(n>>20)%maxPipes)
			if n>>29 == uint32(start%8) { // more of them are had than go
				g.alloc(t)
			}
			if i%20 == 0 {
				g.check(t)
			}
		}
		g.check(t)
		if t.Failed() {
			t.Fatalf("start %d", start)
		}
	}
}

// Each call on each pipe of a store where all objects have something: no other object is touched by it.
func TestNoOtherIsTouched(t *testing.T) {
	for _, q := range all() {
		for _, c := range calls(q) {
			s := full(odd | 15)
			v := store.Look(s)
			c.do(v)
			for _, k := range row() {
				if k != object(q) {
					wantHas(t, v, k, s.Get(k))
				}
			}
		}
	}
}
