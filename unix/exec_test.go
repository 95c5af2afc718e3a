package unix_test

import (
	"testing"

	"cloister/api"
	"cloister/unix"
)

// program lets the file /p have these bytes, in a booted store.
func program(t *testing.T, pages, own int, bytes string) *sys {
	t.Helper()
	x := boot(t, pages, own)
	x.path(0, 0, api.COpen, "/p", making)
	x.is(0, 0, api.CClose, 0)
	write(x.s, inodeOf(2), bytes)
	x.text(0, 0, "/p")
	return x
}

// As many pages as the bytes need, one at least; six are the most.
func TestP18_11ExecNeedsPages(t *testing.T) {
	for size := range 140 {
		x := program(t, 20, 3, ink(size))
		need := max(1, (size+15)/16)
		if size > 96 {
			x.refuses(keys(procs(), process(0), inodeOf(1), inodeOf(2), memory(0)), 0, api.CExec, 0)
			continue
		}
		was := x.s.Get(memory(0))
		was.N[2], was.N[8] = 5, 6
		x.s.Put(memory(0), was)
		was.S = ink(size) + noughts(need*pageLen-size)
		wantAct(t, "an exec", x.act(0, api.CExec, 0), api.Act{
			Pages: from(0, 3),
			Reads: keys(pool(), procs(), process(0), inodeOf(1), inodeOf(2), memory(0)),
			Redo: []api.Write{
				put(pool(), val(free(20)-free(3+need), 7)),
				put(process(0), lined(raw(from(3, need)...), alive, 0, 1, 0, root)),
				put(memory(0), was),
			},
		})
	}
	for _, size := range []int{129, 144, 200, 1 << 12, 1 << 16} {
		x := program(t, 20, 3, ink(size))
		x.refuses(keys(procs(), process(0), inodeOf(1), inodeOf(2), memory(0)), 0, api.CExec, 0)
	}
}

// What a process has isn't free yet when it needs others.
func TestP18_11ExecWithoutPages(t *testing.T) {
	for own := 1; own <= maxSize; own++ {
		for left := range maxSize + 1 {
			for need := 1; need <= maxSize; need++ {
				x := program(t, own+left, own, ink(need*pageLen))
				if left < need {
					x.refuses(keys(pool(), procs(), process(0), inodeOf(1), inodeOf(2), memory(0)), 0, api.CExec, 0)
					wantHas(t, x.s, process(0), lined(raw(from(0, own)...), alive, 0, 1, 0, root))
					continue
				}
				x.is(0, 0, api.CExec, 0)
				wantHas(t, x.s, process(0), lined(raw(from(own, need)...), alive, 0, 1, 0, root))
			}
		}
	}
}

// Files alone are executed, by whatever path; their descriptors and directory stay.
func TestP18_11WhatIsExecuted(t *testing.T) {
	x := boot(t, 30, 2)
	x.path(0, 0, api.CMkdir, "/d")
	x.path(0, 0, api.CChdir, "/d")
	x.path(0, 0, api.COpen, "p", making)
	x.path(0, 0, api.CNode, "/n")
	for _, s := range []string{"/d", "/n", "/", ".", "", "none", "p/x", "/d/none", "//", "p23456789012345"} {
		x.path(-1, 0, api.CExec, s)
	}
	for _, addr := range bad(2 * pageLen) {
		x.refuses(keys(procs(), process(0), memory(0)), 0, api.CExec, addr)
	}
	for i, s := range []string{"p", "/d/p", "./p", "../d//p"} {
		x.path(0, 0, api.CExec, s)
		x.is(pageLen, 0, api.CBrk, 1)
		x.numbers(process(0), alive, 0, 1, 0, 3-1, 0, 0, 0, 1)
		if i == 2 {
			x.run(api.Deed{Kind: api.DBack, Pages: from(0, 20)})
		}
	}
	for _, typ := range []int{0, 4, -1, most, least} {
		x.text(0, 0, "p")
		set(x.s, inodeOf(3), 0, typ)
		x.is(-1, 0, api.CExec, 0)
	}
}

// One that exits, or executes, or shrinks leaves what the others have.
func TestP18_11OthersKeepTheirs(t *testing.T) {
	x := program(t, 20, 2, ink(20))
	x.is(2, 0, api.CFork)
	mem, me := x.s.Get(memory(0)), x.s.Get(process(0))
	a := unix.Do(x.s, 1, call(api.CExec, 0))
	wantAct(t, "the child's", api.Act{Pages: a.Pages}, api.Act{Pages: []int{2, 3}})
	lay(x.s, a.Redo)
	wantHas(t, x.s, memory(0), mem)
	wantHas(t, x.s, process(0), me)
	x.mem(1, 0, ink(20)+noughts(12))
}
