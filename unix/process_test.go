package unix_test

import (
	"testing"

	"cloister/api"
	"cloister/unix"
)

// A child has its parent's directory, files, memory, registers and weight, and nothing else of it.
func TestP18_5ForkTellsAllOfIt(t *testing.T) {
	x := boot(t, 8, 2)
	x.path(0, 0, api.COpen, "/f", making)
	x.is(0, 0, api.CPipe, 20)
	x.is(0, 0, api.CClose, 1)
	set(x.s, memory(0), 3, least) // the bits of -0
	set(x.s, memory(0), 8, 7)
	set(x.s, process(0), 7, 99)
	mem := x.s.Get(memory(0))
	a := unix.Do(x.s, 0, call(api.CFork))
	wantAct(t, "a fork", a, api.Act{
		Ret:   2,
		Reads: keys(pool(), procs(), process(0), process(1), files(), fileOf(0), fileOf(2), inodeOf(1), memory(0), memory(1)),
		Redo: []api.Write{
			put(pool(), val(free(8)-free(4))),
			put(procs(), val(3, 2)),
			put(process(1), lined(raw(2, 3), alive, 1, 2, 0, root, 0, 0, 0, 1, 0, 3)),
			put(fileOf(0), val(node, 2, 2, 0, both)),
			put(fileOf(2), val(writer, 2, 0, 0, writes)),
			put(inodeOf(1), lined(entry(".", 1)+entry("..", 1)+entry("f", 2), dirType, 1, 2)),
			put(memory(1), mem),
		},
	})
}

// What the one does then is nothing to the other, but of what both hold.
func TestP18_5ForksGoTheirWays(t *testing.T) {
	x := boot(t, 8, 2)
	x.path(0, 0, api.COpen, "/f", making)
	x.path(0, 0, api.CMkdir, "/d")
	x.is(2, 0, api.CFork)
	x.is(0, 1, api.CStore, 9, 7)
	x.is(0, 0, api.CLoad, 9)
	x.is(0, 0, api.CStore, 10, 8)
	x.is(0, 1, api.CLoad, 10)
	x.path(0, 1, api.CChdir, "/d")
	x.is(1, 0, api.CWrite, 0, 9, 1) // one offset
	x.is(2, 1, api.CWrite, 0, 9, 2)
	wantHas(t, x.s, inodeOf(2), lined(raw(0, 7, 0), fileType, 1, 1))
	x.is(0, 1, api.CClose, 0)
	x.is(1, 0, api.CWrite, 0, 9, 1)
	x.path(-1, 1, api.COpen, "f", 0)
	x.path(1, 0, api.COpen, "f", 0)
	x.path(0, 1, api.COpen, "../f", 0)
	x.is(3, 1, api.CFork)
	x.numbers(process(2), alive, 2, 3, 0, 3, 0, 0, 0, 3)
	x.numbers(inodeOf(3), dirType, 1, 2)
	x.numbers(inodeOf(1), dirType, 2, 1)
}

// The least process that is free is had, and the pid is a new one each time.
func TestP18_5ForksUpToTheTablesEnd(t *testing.T) {
	x := boot(t, 64, 1)
	for p := 1; p < maxProcs; p++ {
		x.is(p+1, p/2, api.CFork)
		x.numbers(process(p), alive, p/2+1, p+1, 0, root)
	}
	for p := range maxProcs {
		x.refuses(keys(procs(), process(p), memory(p)), p, api.CFork)
	}
	x.numbers(inodeOf(1), dirType, 1, maxProcs)
	x.goes(from(2, 1), 2, api.CExit, 0)
	x.refuses(keys(procs(), process(0), memory(0)), 0, api.CFork)
	x.is(3, 1, api.CWait, 0)
	x.is(9, 0, api.CFork)
	x.numbers(process(2), alive, 1, 9, 0, root)
}

// As many pages as the parent has, or none at all.
func TestP18_5ForkNeedsAllPages(t *testing.T) {
	for own := range maxSize + 1 {
		for left := range maxSize + 2 {
			x := boot(t, own+left, own)
			if left < own {
				x.refuses(keys(pool(), procs(), process(0), process(1), memory(0), memory(1)), 0, api.CFork)
				x.numbers(procs(), 1, 1)
				continue
			}
			x.is(2, 0, api.CFork)
			wantHas(t, x.s, process(1), lined(raw(from(own, own)...), alive, 1, 2, 0, root))
		}
	}
	x := boot(t, 64, 6) // more than a process may have, but objects may say so
	write(x.s, process(0), raw(from(0, 7)...))
	x.refuses(keys(procs(), process(0), process(1), memory(0), memory(1)), 0, api.CFork)
	// the memory is the parent's, however much it is
	x = boot(t, 8, 1)
	for _, size := range []int{0, 1, 15, 17, 200} {
		write(x.s, memory(0), ink(size))
		act := unix.Do(x.s, 0, call(api.CFork))
		if w := act.Redo[len(act.Redo)-1]; w.Key != memory(1) || w.Value.S != ink(size) {
			t.Error(size, w)
		}
	}
}

// Descriptors that say what is no file, or none that is open, aren't the child's; a directory that is none is its.
func TestP18_5ForkOfWhatIsGone(t *testing.T) {
	x := boot(t, 8, 1)
	x.path(0, 0, api.COpen, "/f", making)
	for fd, n := range []int{1, 2, 13, -1, 12, 1} {
		set(x.s, process(0), 8+fd, n)
	}
	set(x.s, process(0), 4, 9)
	x.is(2, 0, api.CFork)
	x.numbers(process(1), alive, 1, 2, 0, 9, 0, 0, 0, 1, 0, 0, 0, 0, 1)
	x.numbers(fileOf(0), node, 3, 2, 0, both)
	x.numbers(inodeOf(9))
	for _, d := range []int{0, 16, -1, most, least} {
		set(x.s, process(0), 4, d)
		a := x.act(0, api.CFork)
		if a.Status != done || a.Ret < 3 {
			t.Fatal(a)
		}
		x.numbers(process(a.Ret-1), alive, 1, a.Ret, 0, d, 0, 0, 0, 1, 0, 0, 0, 0, 1)
	}
}

// All that a process held has a holder fewer; its pages are on their way, and its memory is gone.
func TestP18_6ExitLetsGo(t *testing.T) {
	x := boot(t, 8, 2)
	x.path(0, 0, api.COpen, "/f", making)
	x.path(0, 0, api.CMkdir, "/d")
	x.path(0, 0, api.CChdir, "/d")
	x.is(2, 0, api.CFork)
	x.is(0, 1, api.CPipe, 20)
	x.path(3, 1, api.COpen, "/f", 0)
	a := unix.Do(x.s, 1, call(api.CExit, 7))
	wantAct(t, "an exit", a, api.Act{
		Status: gone,
		Pages:  []int{2, 3},
		Reads:  keys(pool(), procs(), process(0), process(1), files(), fileOf(0), fileOf(1), fileOf(2), fileOf(3), pipes(), pipeOf(0), inodeOf(2), inodeOf(3), memory(1)),
		Redo: []api.Write{
			put(pool(), val(free(8)-free(4), 12)),
			put(process(1), val(zombie, 1, 2, 7)),
			put(files(), val(1)),
			put(fileOf(0), val(node, 1, 2, 0, both)),
			put(fileOf(1), zero),
			put(fileOf(2), zero),
			put(fileOf(3), zero),
			put(pipes(), zero),
			put(pipeOf(0), zero),
			put(inodeOf(2), val(fileType, 1, 1)),
			put(inodeOf(3), lined(entry(".", 3)+entry("..", 1), dirType, 1, 1)),
			put(memory(1), zero),
		},
	})
}

// The code is a byte; registers and weight stay till it is reaped.
func TestP18_6ExitsCode(t *testing.T) {
	for code, want := range map[int]int{0: 0, 1: 1, 255: 255, 256: 0, 263: 7, -1: 255, -256: 0, most: 255, least: 0, 1<<32 + 9: 9} {
		x := boot(t, 8, 1)
		set(x.s, memory(0), 5, 77)
		x.is(2, 0, api.CFork)
		x.goes([]int{1}, 1, api.CExit, code, 5, 5)
		x.numbers(process(1), zombie, 1, 2, want)
		wantHas(t, x.s, memory(1), val(0, 0, 0, 0, 0, 77))
		x.is(2, 0, api.CWait, 3)
		x.is(want, 0, api.CLoad, 3)
		wantHas(t, x.s, memory(1), zero)
		wantHas(t, x.s, process(1), zero)
		x.numbers(procs(), 1, 2)
	}
}

func TestP18_6TheFirstDoesntExit(t *testing.T) {
	x := boot(t, 8, 1)
	for _, code := range append([]int{0, 1, 255, -1}, far()...) {
		x.refuses(keys(procs(), process(0)), 0, api.CExit, code)
	}
}

// Orphans, alive or not, are the first one's, which may wait for them.
func TestP18_6Orphans(t *testing.T) {
	x := boot(t, 64, 1)
	x.is(2, 0, api.CFork)
	x.is(3, 1, api.CFork)
	x.is(4, 1, api.CFork)
	x.is(5, 0, api.CFork)
	x.is(6, 2, api.CFork)
	x.goes(from(3, 1), 3, api.CExit, 9)
	x.goes(from(1, 1), 1, api.CExit, 8)
	for p, parent := range map[int]int{1: 0, 2: 0, 3: 0, 4: 0, 5: 2} {
		if got := x.s.Get(process(p)).N[1]; got != parent+1 {
			t.Errorf("process %d has the parent %d, not %d", p, got-1, parent)
		}
	}
	x.is(2, 0, api.CWait, 0)
	x.is(4, 0, api.CWait, 1)
	x.is(9, 0, api.CLoad, 1)
	x.blocks(0, api.CWait, 0)
	x.blocks(2, api.CWait, 0)
	x.refuses(keys(procs(), process(0), process(2), process(4), process(5)), 5, api.CWait, 0)
}

// Kids are told of it even if the first one is their parent already, as when it is killed.
func TestP18_6TheFirstOnesKidsStay(t *testing.T) {
	x := boot(t, 8, 1)
	x.is(2, 0, api.CFork)
	set(x.s, process(0), 6, 1)
	a := unix.Do(x.s, 0, call(api.CPid))
	wantAct(t, "the first one's end", a, api.Act{
		Status: gone,
		Pages:  []int{0},
		Reads:  keys(pool(), procs(), process(0), process(1), inodeOf(1), memory(0)),
		Redo: []api.Write{
			put(pool(), val(free(8)-free(2), 1)),
			put(process(0), val(zombie, 0, 1, 255, 0, 0, 1)),
			put(process(1), lined(raw(1), alive, 1, 2, 0, root)),
			put(inodeOf(1), lined(entry(".", 1)+entry("..", 1), dirType, 1, 1)),
			put(memory(0), zero),
		},
	})
}

// What descriptors say that are none stays; a file that isn't open is nobody's to close; one that two descriptors say
// has two holders fewer.
func TestP18_6ExitOfWhatIsGone(t *testing.T) {
	x := boot(t, 8, 1)
	x.path(0, 0, api.COpen, "/f", making)
	x.is(2, 0, api.CFork)
	for fd, n := range []int{1, 2, 13, -1, least, 1} {
		set(x.s, process(1), 8+fd, n)
	}
	set(x.s, process(1), 4, 9)
	x.goes([]int{1}, 1, api.CExit, 1)
	x.numbers(process(1), zombie, 1, 2, 1, 0, 0, 0, 0, 0, 0, 13, -1, least)
	x.numbers(fileOf(0))
	x.numbers(inodeOf(2), fileType, 1, 0)
	x.numbers(inodeOf(1), dirType, 1, 2)
}

// One that is its own parent is the first one's then.
func TestP18_6ItsOwnChild(t *testing.T) {
	x := boot(t, 8, 1)
	x.is(2, 0, api.CFork)
	set(x.s, process(1), 1, 2)
	x.goes([]int{1}, 1, api.CExit, 3)
	x.numbers(process(1), zombie, 1, 2, 3)
}

func TestP18_7WaitReapsTheFirstZombie(t *testing.T) {
	x := boot(t, 64, 1)
	x.refuses(keys(procs(), process(0)), 0, api.CWait, 0)
	for p := 1; p < 5; p++ {
		x.is(p+1, 0, api.CFork)
	}
	x.blocks(0, api.CWait, 0)
	x.blocks(0, api.CWait, 99)
	x.goes(from(4, 1), 4, api.CExit, 40)
	x.goes(from(2, 1), 2, api.CExit, 20)
	kids := keys(procs(), process(0), process(1), process(2), process(3), process(4))
	wantAct(t, "a wait", unix.Do(x.s, 0, call(api.CWait, 0)), api.Act{
		Ret:   3,
		Reads: kids,
		Redo:  []api.Write{put(procs(), val(27, 5)), put(process(2), zero), put(memory(2), zero)},
	})
	wantAct(t, "a wait with an address", x.act(0, api.CWait, 7), api.Act{
		Ret:   3,
		Reads: append(kids, memory(0)),
		Redo:  []api.Write{put(procs(), val(27, 5)), put(process(2), zero), put(memory(0), lined(noughts(7)+raw(20)+noughts(8))), put(memory(2), zero)},
	})
	x.is(5, 0, api.CWait, 15)
	x.is(40, 0, api.CLoad, 15)
	x.blocks(0, api.CWait, 0)
	x.is(6, 0, api.CFork) // a number that was had
	x.numbers(process(2), alive, 1, 6, 0, root)
}

// Without room for the code, the zombie is there yet.
func TestP18_7WaitAtABadAddress(t *testing.T) {
	x := boot(t, 8, 1)
	x.is(2, 0, api.CFork)
	x.goes([]int{1}, 1, api.CExit, 9)
	for _, addr := range bad(pageLen) {
		x.refuses(keys(procs(), process(0), process(1), memory(0)), 0, api.CWait, addr)
	}
	x.numbers(process(1), zombie, 1, 2, 9)
	set(x.s, process(1), 3, 511)
	x.is(2, 0, api.CWait, 15)
	x.is(255, 0, api.CLoad, 15)
	for _, addr := range bad(pageLen) {
		x.refuses(keys(procs(), process(0)), 0, api.CWait, addr)
	}
}

// Zombies of others aren't waited for; one whose state is none of both is a child, and no zombie.
func TestP18_7WhoseZombies(t *testing.T) {
	x := boot(t, 8, 1)
	x.is(2, 0, api.CFork)
	x.is(3, 1, api.CFork)
	x.goes([]int{2}, 2, api.CExit, 9)
	x.blocks(0, api.CWait, 0)
	for _, state := range []int{3, -1, most, least} {
		set(x.s, process(2), 0, state)
		x.blocks(1, api.CWait, 0)
	}
	set(x.s, process(2), 0, 0)
	x.refuses(keys(procs(), process(0), process(1), process(2)), 1, api.CWait, 0)
}

// Who is killed is told so, alive or not, and ends at its next call.
func TestP18_10Kill(t *testing.T) {
	x := boot(t, 64, 1)
	for p := 1; p < 4; p++ {
		x.is(p+1, 0, api.CFork)
	}
	then := x.s.Get(process(2))
	then.N[6] = 1
	wantAct(t, "a kill", unix.Do(x.s, 3, call(api.CKill, 3)), api.Act{
		Reads: keys(procs(), process(0), process(1), process(2), process(3)),
		Redo:  []api.Write{put(process(2), then)},
	})
	x.is(0, 1, api.CKill, 3)
	x.is(0, 1, api.CKill, 3)
	x.is(0, 1, api.CKill, 2) // itself
	x.goes(from(1, 1), 1, api.CKill, 4)
	x.goes(from(2, 1), 2, api.CWait)
	x.is(0, 0, api.CKill, 2)
	x.numbers(process(1), zombie, 1, 2, 255, 0, 0, 1)
	x.is(2, 0, api.CWait, 0)
	x.refuses(keys(procs(), process(0), process(2), process(3)), 0, api.CKill, 2)
}

func TestP18_10WhoIsntKilled(t *testing.T) {
	x := boot(t, 64, 1)
	x.is(2, 0, api.CFork)
	for p := range 2 {
		read := keys(procs(), process(0))
		if p == 1 {
			read = append(read, process(1))
		}
		x.refuses(read, p, api.CKill, 1)
		for _, pid := range append([]int{0, 3, 9, -1, -2}, far()...) {
			x.refuses(keys(procs(), process(0), process(1)), p, api.CKill, pid)
		}
	}
	x.numbers(process(0), alive, 0, 1, 0, root)
	x.numbers(process(1), alive, 1, 2, 0, root)
	// of two with one pid the first one; the first of all is nobody's to kill
	set(x.s, process(0), 2, 2)
	x.refuses(keys(procs(), process(0)), 0, api.CKill, 2)
}

// As many bytes as its pages had ahead, whatever its memory has.
func TestP18_15Brk(t *testing.T) {
	for had := range maxSize + 1 {
		for n := -maxSize - 3; n <= maxSize+3; n++ {
			x := boot(t, 10, had)
			a := x.act(0, api.CBrk, n)
			read := keys(pool(), procs(), process(0), memory(0))
			switch {
			case n < -maxSize:
				wantAct(t, "far below", a, api.Act{Ret: -1, Reads: keys(procs(), process(0))})
			case had+n < 0 || had+n > maxSize:
				wantAct(t, "too many", a, api.Act{Ret: -1, Reads: read[1:]})
			default:
				word := val(free(10) - free(max(had, had+n)))
				word.N[1] = free(had) - free(min(had, had+n))
				wantAct(t, "a step", a, api.Act{
					Ret:   had * pageLen,
					Pages: from(had+n, max(0, -n)),
					Reads: read,
					Redo:  []api.Write{put(pool(), word), put(process(0), lined(raw(from(0, had+n)...), alive, 0, 1, 0, root)), put(memory(0), lined(noughts((had+n)*pageLen)))},
				})
			}
		}
	}
}

func TestP18_15BrkWithoutPages(t *testing.T) {
	for left := range 4 {
		for n := range 5 {
			x := boot(t, 2+left, 2)
			write(x.s, memory(0), ink(5))
			if n > left {
				x.refuses(keys(pool(), procs(), process(0), memory(0)), 0, api.CBrk, n)
				continue
			}
			x.is(32, 0, api.CBrk, n)
			wantHas(t, x.s, memory(0), lined(ink(5)+noughts(n*pageLen)))
		}
	}
	x := boot(t, 8, 2)
	for _, n := range far() {
		read := keys(procs(), process(0))
		if n > 0 {
			read = append(read, memory(0))
		}
		x.refuses(read, 0, api.CBrk, n)
	}
	// more pages than a process may have, and pages that go round
	write(x.s, process(0), raw(from(60, 10)...))
	a := x.act(0, api.CBrk, -maxSize)
	if a.Ret != 160 {
		t.Error(a)
	}
	wantAct(t, "six pages", api.Act{Pages: a.Pages}, api.Act{Pages: []int{0, 1, 2, 3, 4, 5}})
	x.is(-1, 0, api.CBrk, 3)
	x.is(64, 0, api.CBrk, 2)
}

// A process that has its pages on their way has none of them again till they are back.
func TestP18_15PagesOnTheirWayArentFree(t *testing.T) {
	x := boot(t, 3, 3)
	wantAct(t, "two", api.Act{Pages: x.act(0, api.CBrk, -2).Pages}, api.Act{Pages: []int{1, 2}})
	x.is(-1, 0, api.CBrk, 1)
	x.run(api.Deed{Kind: api.DBack, Pages: []int{2}})
	x.is(-1, 0, api.CBrk, 2)
	x.is(16, 0, api.CBrk, 1)
	wantHas(t, x.s, process(0), lined(raw(0, 2), alive, 0, 1, 0, root))
	wantHas(t, x.s, pool(), val(0, 2))
}
