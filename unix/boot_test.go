package unix_test

import (
	"testing"

	"cloister/api"
	"cloister/store"
	"cloister/unix"
)

// free is the word of so many least pages.
func free(pages int) int {
	n := 0
	for g := range pages {
		n |= 1 << g
	}
	return n
}

func TestP18_1BootHasPagesARootAndAProcess(t *testing.T) {
	for pages, want := range map[int]int{0: 0, 1: 1, 2: 2, 8: 8, 31: 31, 32: 32, 33: 33, 62: 62, 63: 63, 64: 64, 65: 64, 99: 64, 128: 64, 1 << 32: 64, 1<<60 + 3: 64, most: 64, -1: 0, -2: 0, -64: 0, -1 << 32: 0, least: 0, least + 8: 0} {
		s := unix.Boot(pages)
		for _, k := range objects {
			x := zero
			switch k {
			case pool():
				x = val(free(want))
			case procs():
				x = val(1, 1)
			case process(0):
				x = val(alive, 0, 1, 0, root)
			case inodes():
				x = val(3)
			case inodeOf(root):
				x = lined(entry(".", root)+entry("..", root), dirType, 1, 1)
			}
			wantHas(t, s, k, x)
		}
	}
}

// Each Boot makes a store of its own.
func TestP18_1BootsDontTouchEachOther(t *testing.T) {
	a, b := unix.Boot(8), unix.Boot(8)
	for _, k := range objects {
		a.Put(k, lined("x", 1, 2, 3))
	}
	wantSame(t, "another one", b, unix.Boot(8))
}

// What a call writes is told in the row's order, and isn't in the store until it is put there.
func TestP18_2DoIsADryRun(t *testing.T) {
	x := boot(t, 8, 2)
	x.text(0, 0, "/f")
	was := x.s.Twin()
	a := unix.Do(x.s, 0, call(api.COpen, 0, making))
	b := unix.Do(x.s, 0, call(api.COpen, 0, making))
	want := api.Act{
		Reads: keys(procs(), process(0), files(), inodes(), inodeOf(1), inodeOf(2), memory(0)),
		Redo: []api.Write{
			put(process(0), lined(raw(0, 1), alive, 0, 1, 0, root, 0, 0, 0, 1)),
			put(files(), val(1)),
			put(fileOf(0), val(node, 1, 2, 0, both)),
			put(inodes(), val(7)),
			put(inodeOf(1), lined(entry(".", 1)+entry("..", 1)+entry("f", 2), dirType, 1, 1)),
			put(inodeOf(2), val(fileType, 1, 1)),
		},
	}
	wantAct(t, "once", a, want)
	wantAct(t, "twice", b, want)
	wantSame(t, "behind two dry runs", x.s, was)
	lay(x.s, a.Redo)
	wantAct(t, "behind it", unix.Do(x.s, 0, call(api.CDup, 0)), api.Act{
		Ret:   1,
		Reads: keys(procs(), process(0), files(), fileOf(0)),
		Redo: []api.Write{
			put(process(0), lined(raw(0, 1), alive, 0, 1, 0, root, 0, 0, 0, 1, 1)),
			put(fileOf(0), val(node, 2, 2, 0, both)),
		},
	})
}

// An act is the caller's: what is done with it is told by no other one.
func TestP18_2ActsAreNewMemory(t *testing.T) {
	for _, c := range []api.Call{call(api.CFork), call(api.CBrk, -2), call(api.CPid), call(api.CWait), call(99)} {
		x := boot(t, 8, 2)
		was := x.s.Twin()
		a, want := unix.Do(x.s, 0, c), unix.Do(x.s, 0, c)
		for _, l := range [][]api.Key{a.Reads, a.Reads[:cap(a.Reads)]} {
			for i := range l {
				l[i] = api.Key{Kind: -1}
			}
		}
		for i := range a.Pages[:cap(a.Pages)] {
			a.Pages[:cap(a.Pages)][i] = 99
		}
		for i := range a.Redo[:cap(a.Redo)] {
			a.Redo[:cap(a.Redo)][i] = api.Write{}
		}
		wantAct(t, "another", unix.Do(x.s, 0, c), want)
		wantSame(t, "a store", x.s, was)
	}
}

// A call that answers -1 has told nothing, even if that is a pid.
func TestP18_2AnAnswerOfMinusOneTellsNothing(t *testing.T) {
	x := boot(t, 8, 1)
	set(x.s, procs(), 1, -2)
	x.refuses(keys(pool(), procs(), process(0), process(1), inodeOf(1), memory(0), memory(1)), 0, api.CFork)
	set(x.s, procs(), 1, -3)
	x.is(-2, 0, api.CFork)
	set(x.s, process(1), 0, zombie)
	set(x.s, process(1), 2, -1)
	x.refuses(keys(procs(), process(0), process(1)), 0, api.CWait, 0)
	set(x.s, process(1), 2, -2)
	x.is(-2, 0, api.CWait, 0)
	set(x.s, process(0), 2, -1)
	x.refuses(keys(procs(), process(0)), 0, api.CPid)
	set(x.s, clock(), 0, -1)
	x.refuses(keys(clock(), procs(), process(0)), 0, api.CUptime)
}

// calls are calls of all numbers, with what may be asked of them, and of numbers that are none.
func calls() []api.Call {
	var l []api.Call
	for num := -2; num <= 30; num++ {
		l = append(l, call(num), call(num, 1, 1, 1), call(num, -1, 2, 3), call(num, 5, making, 0))
	}
	for _, n := range far() {
		l = append(l, call(n), call(n, n, n, n))
	}
	return l
}

func TestP18_3WhoIsntAliveIsRefused(t *testing.T) {
	x := boot(t, 32, 1)
	x.is(2, 0, api.CFork)
	x.is(3, 0, api.CFork)
	x.is(4, 0, api.CFork)
	x.goes(from(1, 1), 1, api.CExit, 5)
	set(x.s, process(2), 0, 3) // a state that is none
	set(x.s, process(3), 0, 0)
	for p := 4; p < maxProcs; p++ { // they look alive, but their bits aren't set
		x.s.Put(process(p), val(alive, 1, p, 0, root))
	}
	for _, c := range calls() {
		for p := 1; p < maxProcs; p++ {
			read := keys(procs())
			if p < 4 {
				read = append(read, process(p))
			}
			x.refuses(read, p, c.Num, c.A, c.B, c.C)
		}
		for _, p := range strangers() {
			x.refuses(nil, p, c.Num, c.A, c.B, c.C)
		}
	}
}

// A process that is killed exits whatever it calls, the first one, too.
func TestP18_3TheKilledExit(t *testing.T) {
	for _, killed := range []int{1, 2, -1, 255, 256, 1 << 32, least, most} {
		for _, c := range calls() {
			for p := range 2 {
				x := boot(t, 8, 2)
				x.is(2, 0, api.CFork)
				set(x.s, process(p), 6, killed)
				x.goes(from(2*p, 2), p, c.Num, c.A, c.B, c.C)
				x.numbers(process(p), zombie, p, p+1, 255, 0, 0, killed)
			}
		}
	}
}

func TestP18_3NumbersThatAreNone(t *testing.T) {
	x := boot(t, 8, 2)
	for _, n := range append([]int{0, -1, -2, -25, 26, 27, 99, 255, 257}, far()...) {
		x.refuses(keys(procs(), process(0)), 0, n, 1, 1, 1)
	}
	for i, n := range []int{api.CFork, api.CExit, api.CWait, api.CPipe, api.CRead, api.CKill, api.CExec, api.CStat, api.CChdir, api.CDup, api.CPid, api.CBrk, api.CUntil, api.CUptime, api.COpen, api.CWrite, api.CNode, api.CUnlink, api.CLink, api.CMkdir, api.CClose, api.CStore, api.CLoad, api.CFloat, api.CWeight} {
		if n != i+1 {
			t.Error(i, n)
		}
	}
}

func TestP18_3Pid(t *testing.T) {
	x := boot(t, 8, 1)
	x.is(2, 0, api.CFork)
	x.is(3, 1, api.CFork)
	for p := range 3 {
		x.is(p+1, p, api.CPid)
		x.is(p+1, p, api.CPid, 9, 9, 9)
	}
	for _, pid := range append([]int{0, 7}, far()...) {
		set(x.s, process(1), 2, pid)
		wantAct(t, "a pid", x.act(1, api.CPid), api.Act{Ret: pid, Reads: keys(procs(), process(1))})
	}
}

func TestP18_3TheClock(t *testing.T) {
	x := boot(t, 8, 1)
	for _, now := range append([]int{0, 1, 2, 7}, far()...) {
		set(x.s, clock(), 0, now)
		read := keys(clock(), procs(), process(0))
		wantAct(t, "the tick", x.act(0, api.CUptime), api.Act{Ret: now, Reads: read})
		for _, tick := range append([]int{now - 1, now, now + 1, 0, 1, -1}, far()...) {
			a := x.act(0, api.CUntil, tick)
			want := api.Act{Reads: read}
			if tick > now {
				want.Status = blocks
			}
			wantAct(t, "until a tick", a, want)
		}
	}
}

func TestP18_3StoreAndLoad(t *testing.T) {
	x := boot(t, 8, 2)
	for addr := range 32 {
		for b, want := range map[int]int{0: 0, 1: 1, 127: 127, 128: 128, 255: 255, 256: 0, 257: 1, -1: 255, -256: 0, -255: 1, least: 0, most: 255, 1<<32 + 7: 7} {
			x.is(0, 0, api.CStore, addr, b, 9)
			x.is(want, 0, api.CLoad, addr, 9, 9)
		}
		x.is(0, 0, api.CStore, addr, addr*3)
	}
	for addr := range 32 {
		wantAct(t, "a load", x.act(0, api.CLoad, addr), api.Act{Ret: addr * 3, Reads: keys(procs(), process(0), memory(0))})
	}
	a := x.act(0, api.CStore, 31, 5)
	wantAct(t, "a store", a, api.Act{Reads: keys(procs(), process(0), memory(0)), Redo: []api.Write{put(memory(0), x.s.Get(memory(0)))}})
}

// bad are addresses that aren't those of a memory of a size.
func bad(size int) []int { return append([]int{size, size + 1, size + 255, -1, -2, -size}, far()...) }

func TestP18_4ABadAddressEndsAllButTheFirst(t *testing.T) {
	for pages := range 3 {
		for _, addr := range bad(pages * pageLen) {
			for _, num := range []int{api.CStore, api.CLoad} {
				x := boot(t, 8, pages)
				x.is(2, 0, api.CFork)
				x.refuses(keys(procs(), process(0), memory(0)), 0, num, addr, 1)
				x.goes(from(pages, pages), 1, num, addr, 1)
				x.numbers(process(1), zombie, 1, 2, 254)
				x.is(2, 0, api.CWait, 0)
			}
		}
	}
}

// The size is the memory's, and not that of the pages, if they say different ones.
func TestP18_4TheMemorySays(t *testing.T) {
	x := boot(t, 8, 1)
	write(x.s, memory(0), ink(20))
	x.is(int(ink(20)[19]), 0, api.CLoad, 19)
	x.is(0, 0, api.CStore, 19, 1)
	x.is(-1, 0, api.CLoad, 20)
	write(x.s, memory(0), ink(3))
	x.is(-1, 0, api.CLoad, 3)
	x.is(-1, 0, api.CStore, 3, 0)
	x.is(0, 0, api.CStore, 2, 0)
}

// A store that nothing was put into has no process.
func TestP18_3NobodyIsInANewStore(t *testing.T) {
	for p := range maxProcs {
		for _, c := range calls() {
			wantAct(t, "nobody", unix.Do(store.New(), p, c), api.Act{Ret: -1, Reads: keys(procs())})
		}
	}
}
