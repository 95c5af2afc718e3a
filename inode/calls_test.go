package inode_test

import (
	"strings"
	"testing"

	"cloister/api"
	"cloister/inode"
	"cloister/store"
)

// plain is what an inode must be, told without objects: what isn't there is as nothing.
type plain struct {
	there               bool
	typ, links, holders int
	bytes               string
}

// stage has inodes, seen through one view after the other, and what they must be.
type stage struct {
	s      *store.Store
	v      *store.View
	inodes [maxInodes]plain
}

func newStage() *stage {
	s := store.New()
	return &stage{s: s, v: store.Look(s)}
}

func (g *stage) alloc(t *testing.T, typ int) {
	t.Helper()
	for _, i := range all() {
		if !g.inodes[i].there {
			wantAlloc(t, g.v, typ, i, true)
			g.inodes[i] = plain{there: true, typ: typ}
			return
		}
	}
	wantAlloc(t, g.v, typ, 0, false)
}

func (g *stage) change(t *testing.T, i, links, holders int) {
	t.Helper()
	p := &g.inodes[i]
	wantChange(t, g.v, i, links, holders, p.there)
	if !p.there {
		return
	}
	p.links, p.holders = p.links+links, p.holders+holders
	if goes(p.links, p.holders) {
		*p = plain{}
	}
}

func (g *stage) write(t *testing.T, i, off int, d string) {
	t.Helper()
	p := &g.inodes[i]
	if !p.there {
		wantWrite(t, g.v, i, off, d, -1)
		return
	}
	s, n := over(p.bytes, off, d)
	wantWrite(t, g.v, i, off, d, n)
	p.bytes = s
}

func (g *stage) read(t *testing.T, i, off, n int) {
	t.Helper()
	wantRead(t, g.v, i, off, n, part(g.inodes[i].bytes, off, n))
}

// settle puts what was done into the store, and goes on through a new view.
func (g *stage) settle() {
	lay(g.s, g.v)
	g.v = store.Look(g.s)
}

// check holds all inodes and the table against what they must be.
func (g *stage) check(t *testing.T) {
	t.Helper()
	used := zero
	for i, p := range g.inodes {
		if p.there {
			used.N[0] += 1 << i
			wantHas(t, g.v, object(i), val(p.typ, p.links, p.holders, p.bytes))
		} else {
			wantHas(t, g.v, object(i), zero)
		}
		if inode.Is(g.v, i) != p.there || inode.Type(g.v, i) != p.typ || inode.Links(g.v, i) != p.links || inode.Size(g.v, i) != len(p.bytes) {
			t.Errorf("inode %d is not %v", i, p)
		}
		wantRead(t, g.v, i, 0, 999, p.bytes)
	}
	wantHas(t, g.v, table(), used)
	for _, k := range row() {
		if k.Kind != api.KInodes && k.Kind != api.KInode {
			wantHas(t, g.v, k, zero)
		}
	}
}

const kindsOfCalls = 12

// call does one call about inode i.
func (g *stage) call(t *testing.T, c, i int) {
	t.Helper()
	switch c {
	case 0:
		g.alloc(t, api.TFile)
	case 1:
		g.alloc(t, api.TDir)
	case 2:
		g.change(t, i, 1, 0)
	case 3:
		g.change(t, i, 0, 1)
	case 4:
		g.change(t, i, -1, 0)
	case 5:
		g.change(t, i, 0, -1)
	case 6:
		g.write(t, i, 0, "ab")
	case 7:
		g.write(t, i, 1, "x")
	case 8:
		g.write(t, i, len(g.inodes[i].bytes), strings.Repeat("long", 16))
	case 9:
		g.write(t, i, len(g.inodes[i].bytes)+1, "z")
	case 10:
		g.read(t, i, 1, 2)
	case 11:
		g.settle()
	}
}

// All rows of three calls, each of inode 1 or 2; and the same behind both were had and linked.
func TestAllShortRowsOfCalls(t *testing.T) {
	const base = 2 * kindsOfCalls
	for begun := range 2 {
		for code := range base * base * base {
			g := newStage()
			if begun == 1 {
				g.alloc(t, api.TFile)
				g.alloc(t, api.TFile)
				g.change(t, 1, 1, 0)
			}
			for rest := code + base*base*base; rest >= base; rest /= base {
				g.call(t, rest%base/2, rest%base%2+1)
			}
			g.check(t)
			if t.Failed() {
				t.Fatalf("begun %d, calls %d", begun, code)
			}
		}
	}
}

// Long rows of calls about all inodes, 0 too: which, is told by a sum that goes round.
func TestLongRowsOfCalls(t *testing.T) {
	for start := range 8 {
		g := newStage()
		n := uint32(start)
		for i := range 2000 {
			n = n*1664525 + 1013904223
			g.call(t, int(n>>8)%kindsOfCalls, int(n>>16)%maxInodes)
			if i%10 == 0 {
				g.check(t)
			}
		}
		g.check(t)
		if t.Failed() {
			t.Fatalf("start %d", start)
		}
	}
}

// Each call on each inode of a store where all objects have something: no other object is touched by it.
func TestP10_6NoOtherIsTouched(t *testing.T) {
	for _, i := range all() {
		x := full().Get(object(i))
		for _, q := range []struct {
			do    deed
			table bool // may the table be another one?
		}{
			{func(v *store.View) { inode.Change(v, i, 1, 1) }, false},
			{func(v *store.View) { inode.Change(v, i, -x.N[1], 0) }, false},
			{func(v *store.View) { inode.Change(v, i, -x.N[1], -x.N[2]) }, true},
			{func(v *store.View) { inode.Write(v, i, 1, "abc") }, false},
			{func(v *store.View) { inode.Write(v, i, len(x.S), text(200)) }, false},
			{func(v *store.View) { inode.Read(v, i, 1, 3) }, false},
			{func(v *store.View) { v.Put(table(), bits(but(i)...)); inode.Alloc(v, 1) }, true},
		} {
			v := store.Look(full())
			q.do(v)
			for _, k := range row() {
				if k != object(i) && !(q.table && k == table()) {
					wantHas(t, v, k, full().Get(k))
				}
			}
		}
	}
}
