package unix_test

import (
	"strings"
	"testing"

	"cloister/api"
	"cloister/store"
	"cloister/unix"
)

// tally is who says what, of all that there is of a kind.
type tally struct {
	pages            [maxPages]int
	files            [maxFiles + 1]int
	links, holders   [256]int
	readers, writers [maxPipes]int
}

// tallied counts what a store's processes, open files and directories say.
func tallied(s *store.Store) tally {
	var n tally
	for p := range maxProcs {
		x := s.Get(process(p))
		for _, g := range []byte(x.S) {
			n.pages[g]++
		}
		n.holders[x.N[4]]++
		for _, f := range x.N[8 : 8+maxFd] {
			n.files[f]++
		}
	}
	for f := range maxFiles {
		x := s.Get(fileOf(f))
		switch x.N[0] {
		case node:
			n.holders[x.N[2]]++
		case reader:
			n.readers[x.N[2]]++
		case writer:
			n.writers[x.N[2]]++
		}
	}
	for d := range maxInodes {
		x := s.Get(inodeOf(d))
		if x.N[0] != dirType || x.N[1] <= 0 { // nobody's way leads through what has no link
			continue
		}
		for e := x.S; e != ""; e = e[16:] {
			if !strings.HasPrefix(e, ".\x00") {
				n.links[e[14]]++
			}
		}
	}
	return n
}

// check wants what holds behind all calls from a Boot of so many pages on. An object whose bit isn't set is zero, so
// that what it says needn't be asked for the bit.
func (x *sys) check(pages int) {
	x.t.Helper()
	n := tallied(x.s)
	x.checkPages(pages, n)
	x.checkBits(procs(), process, 0, maxProcs)
	x.checkBits(files(), fileOf, 0, maxFiles)
	x.checkBits(pipes(), pipeOf, 0, maxPipes)
	x.checkBits(inodes(), inodeOf, 1, maxInodes)
	for f := range maxFiles {
		if y := x.s.Get(fileOf(f)); y.N[1] != n.files[f+1] {
			x.t.Errorf("file %d has %d holders, not %d", f, y.N[1], n.files[f+1])
		}
	}
	for i := 1; i < maxInodes; i++ {
		if y := x.s.Get(inodeOf(i)); y.N[1] != n.links[i] || y.N[2] != n.holders[i] {
			x.t.Errorf("inode %d has %d links, not %d, and %d holders, not %d", i, y.N[1], n.links[i], y.N[2], n.holders[i])
		}
	}
	for q := range maxPipes {
		if y := x.s.Get(pipeOf(q)); y.N[0] != n.readers[q] || y.N[1] != n.writers[q] {
			x.t.Errorf("pipe %d has %v, not %d, %d", q, y.N[:2], n.readers[q], n.writers[q])
		}
	}
}

// checkBits wants of all objects of a kind that those are zero whose bits aren't set, and no others.
func (x *sys) checkBits(table api.Key, of func(int) api.Key, first, end int) {
	x.t.Helper()
	used := x.s.Get(table).N[0]
	for i := first; i < end; i++ {
		if bitOf(used, i) == (x.s.Get(of(i)) == zero) {
			x.t.Errorf("object %v has %v, and the table %b", of(i), x.s.Get(of(i)), used)
		}
	}
}

// checkPages wants each page to be had once, and memory of as many bytes.
func (x *sys) checkPages(pages int, n tally) {
	x.t.Helper()
	all := x.s.Get(pool())
	for g, had := range n.pages {
		for _, word := range all.N[:2] {
			if bitOf(word, g) {
				had++
			}
		}
		if g < pages && had != 1 || g >= pages && had != 0 {
			x.t.Errorf("page %d is had %d times", g, had)
		}
	}
	for p := range maxProcs {
		if own, mem := x.s.Get(process(p)).S, x.s.Get(memory(p)).S; len(mem) != pageLen*len(own) {
			x.t.Errorf("process %d has %d bytes and %d pages", p, len(mem), len(own))
		}
	}
}

// The paths that stand in each memory, at these addresses.
const (
	atA   = 0  // "/a"
	atAB  = 3  // "/a/b"
	atC   = 8  // "c"
	atUp  = 10 // ".."
	atABC = 13 // "/a/b/c"
	atTop = 20 // "/"
	atUpC = 22 // "../c"
	atDot = 27 // "."
	ways  = "/a\x00/a/b\x00c\x00..\x00/a/b/c\x00/\x00../c\x00.\x00"
)

// steps are calls of all kinds, with what may be asked of them.
func steps() []api.Call {
	l := []api.Call{
		call(api.CFork), call(api.CFork), call(api.CExit, 5), call(api.CWait, 40), call(api.CWait), call(api.CWait, 99), call(api.CPipe, 30), call(api.CPipe, 95),
		call(api.CKill, 2), call(api.CKill, 4), call(api.CBrk, 1), call(api.CBrk, 2), call(api.CBrk, -1), call(api.CBrk, -3), call(api.CStore, 47, 7), call(api.CLoad, 32), call(api.CUntil, 3),
		call(api.CFloat, 0, 1, 5), call(api.CFloat, api.ODiv, 1, 2), call(api.CWeight, 1), call(api.CLink, atA, atC), call(api.CLink, atC, atAB), call(api.CLink, atUpC, atABC),
	}
	for _, at := range []int{atA, atAB, atC, atUp, atABC, atTop, atUpC, atDot} {
		for _, num := range []int{api.CExec, api.CChdir, api.CNode, api.CUnlink, api.CMkdir, api.COpen} {
			l = append(l, call(num, at))
		}
		l = append(l, call(api.CMkdir, at), call(api.COpen, at, making), call(api.COpen, at, hWrite), call(api.CUnlink, at))
	}
	for fd := range 4 {
		l = append(l, call(api.CRead, fd, 30, 4), call(api.CRead, fd, 0, 20), call(api.CWrite, fd, 3, 9), call(api.CStat, fd, 28+fd), call(api.CDup, fd), call(api.CClose, fd), call(api.CClose, fd))
	}
	return l
}

// ready writes the paths into a process's memory again, as its stores would, as far as it has room for them.
func (x *sys) ready(p int) {
	mem := x.s.Get(memory(p)).S
	n := min(len(mem), len(ways))
	write(x.s, memory(p), ways[:n]+mem[n:])
}

// do does a call, whatever comes of it, and lets the pages that it took away be free again, if they are to be.
func (x *sys) do(p int, c api.Call, back bool) {
	x.t.Helper()
	x.ready(p)
	a := x.act(p, c.Num, c.A, c.B, c.C)
	if back && len(a.Pages) > 0 {
		x.run(api.Deed{Kind: api.DBack, Pages: a.Pages})
	}
}

// All rows of two calls of one of two processes, behind some beginnings.
func TestP18_21AllShortRowsOfCalls(t *testing.T) {
	for _, begun := range [][]api.Call{
		{},
		{call(api.CMkdir, atA), call(api.CMkdir, atAB), call(api.CChdir, atAB)},
		{call(api.COpen, atA, making), call(api.CPipe, 40), call(api.CWrite, 0, 0, 20)},
		{call(api.CMkdir, atA), call(api.COpen, atAB, making), call(api.CDup, 0), call(api.CUnlink, atAB), call(api.CNode, atC)},
	} {
		first := boot(t, 12, 3)
		for _, c := range begun {
			first.do(0, c, false)
		}
		first.is(2, 0, api.CFork)
		for _, c := range steps() {
			for p := range 2 {
				once := &sys{t, first.s.Twin()}
				once.do(p, c, false)
				once.check(12)
				for _, d := range steps() {
					twice := &sys{t, once.s.Twin()}
					twice.do(1-p, d, false)
					if twice.check(12); t.Failed() {
						t.Fatalf("begun %v, %v, %v", begun, c, d)
					}
				}
			}
		}
	}
}

// chance tells numbers by a sum that goes round.
type chance uint64

func (n *chance) below(end int) int {
	*n = *n*6364136223846793005 + 1442695040888963407
	return int(*n>>33) % end
}

// wander does so many calls of whichever processes there are, and what else there is to be done.
func (x *sys) wander(n *chance, times int) {
	x.t.Helper()
	l := steps()
	for range times {
		switch n.below(12) {
		case 0:
			x.run(api.Deed{Kind: api.DTick})
		case 1:
			x.run(api.Deed{Kind: api.DType, Text: ink(n.below(20))})
		case 2:
			x.run(api.Deed{Kind: api.DBack, Pages: from(n.below(maxPages), 20)})
		case 3:
			x.do(n.below(maxProcs), call(api.CBrk, 3), true)
		}
		x.do(n.below(maxProcs), l[n.below(len(l))], n.below(2) == 0)
	}
}

func TestP18_21LongRowsOfCalls(t *testing.T) {
	for start := range 60 {
		pages := 10 + start%40
		x, n := boot(t, pages, 3), chance(start)
		for range 40 {
			x.wander(&n, 10)
			if x.check(pages); t.Failed() {
				t.Fatalf("start %d", start)
			}
		}
	}
}

// When all but the first one were reaped, and it lets go, too, all is as at first, but what names reach.
func TestP18_21NothingIsLeft(t *testing.T) {
	for start := range 60 {
		x, n := boot(t, 30, 3), chance(start*7)
		x.wander(&n, 200)
		for p := 1; p < maxProcs; p++ {
			set(x.s, process(p), 6, x.s.Get(process(p)).N[0]%2) // killed, if it is alive
			x.act(p, api.CPid)
		}
		for x.act(0, api.CWait).Ret > 0 {
		}
		for fd := range maxFd {
			x.act(0, api.CClose, fd)
		}
		all := api.Deed{Kind: api.DBack, Pages: from(0, maxPages)}
		x.run(all)
		x.act(0, api.CBrk, -len(x.s.Get(process(0)).S))
		x.is(0, 0, api.CBrk, 1)
		x.path(0, 0, api.CChdir, "/")
		x.is(16, 0, api.CBrk, -1)
		x.run(all)
		x.check(30)
		last := x.s.Get(procs()).N[1]
		for k, want := range map[api.Key]api.Value{files(): zero, pipes(): zero, pool(): val(free(30)), procs(): val(1, last), process(0): val(alive, 0, 1, 0, root)} {
			wantHas(t, x.s, k, want)
		}
		for i := 1; i < maxInodes; i++ {
			y := x.s.Get(inodeOf(i))
			if y.N[0] != 0 && y.N[1] == 0 || y.N[2] != 0 && i != root {
				t.Errorf("inode %d has %v", i, y.N)
			}
		}
		if t.Failed() {
			t.Fatalf("start %d", start)
		}
	}
}

// A process that forks for ever has no more than there are; one that ends for ever leaves nothing.
func TestP18_21ForksAndExits(t *testing.T) {
	x := boot(t, 8, 2)
	for i := range 300 {
		x.is(i+2, 0, api.CFork)
		a := unix.Do(x.s, 1, call(api.CExit, i))
		lay(x.s, a.Redo)
		x.run(api.Deed{Kind: api.DBack, Pages: a.Pages})
		x.is(i+2, 0, api.CWait, 1)
		x.is(i&255, 0, api.CLoad, 1)
		x.check(8)
	}
}
