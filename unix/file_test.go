package unix_test

import (
	"testing"

	"cloister/api"
	"cloister/unix"
)

func TestP18_8PipeTellsAllOfIt(t *testing.T) {
	x := boot(t, 8, 1)
	for q := range maxPipes {
		if q == 3 {
			for fd := range 4 {
				x.is(0, 0, api.CClose, fd)
			}
			break
		}
		me, mem := x.s.Get(process(0)), x.s.Get(memory(0))
		me.N[8+2*q], me.N[9+2*q] = 2*q+1, 2*q+2
		mem.S = mem.S[:q] + raw(2*q, 2*q+1) + mem.S[q+2:]
		wantAct(t, "a pipe", x.act(0, api.CPipe, q), api.Act{
			Reads: keys(procs(), process(0), files(), pipes(), memory(0)),
			Redo: []api.Write{
				put(process(0), me),
				put(files(), val(free(2*q+2))),
				put(fileOf(2*q), val(reader, 1, q, 0, reads)),
				put(fileOf(2*q+1), val(writer, 1, q, 0, writes)),
				put(pipes(), val(free(q+1))),
				put(pipeOf(q), val(1, 1)),
				put(memory(0), mem),
			},
		})
	}
	x.numbers(pipes(), 4)
	x.is(0, 0, api.CPipe, 14)
	x.mem(0, 14, raw(0, 1))
	x.numbers(pipes(), 5)
}

// fill gives the first process so many descriptors of one file.
func fill(x *sys, fds int) {
	x.t.Helper()
	if fds > 0 {
		x.path(0, 0, api.COpen, "/f", making)
	}
	for fd := 1; fd < fds; fd++ {
		x.is(fd, 0, api.CDup, 0)
	}
}

func TestP18_8PipesUpToTheTablesEnds(t *testing.T) {
	for fds := range maxFd + 1 {
		x := boot(t, 8, 1)
		fill(x, fds)
		switch fds {
		case 5:
			x.refuses(keys(procs(), process(0), files(), pipes()), 0, api.CPipe, 3)
		case 6:
			x.refuses(keys(procs(), process(0), pipes()), 0, api.CPipe, 3)
		default:
			x.is(0, 0, api.CPipe, 3)
			x.mem(0, 3, raw(fds, fds+1))
		}
	}
	for left := range 4 { // open files
		x := boot(t, 8, 1)
		set(x.s, files(), 0, free(maxFiles-left))
		if left < 2 {
			x.refuses(keys(procs(), process(0), files(), pipes()), 0, api.CPipe, 3)
			continue
		}
		x.is(0, 0, api.CPipe, 3)
		x.numbers(process(0), alive, 0, 1, 0, root, 0, 0, 0, maxFiles-left+1, maxFiles-left+2)
	}
	for left := range 3 {
		x := boot(t, 8, 1)
		set(x.s, pipes(), 0, free(maxPipes-left))
		if left == 0 {
			x.refuses(keys(procs(), process(0), pipes()), 0, api.CPipe, 3)
			continue
		}
		x.is(0, 0, api.CPipe, 3)
		x.numbers(pipes(), free(maxPipes-left+1))
	}
}

// Two bytes need room.
func TestP18_8PipeAtABadAddress(t *testing.T) {
	x := boot(t, 8, 2)
	for _, addr := range append(bad(32), 31) {
		x.refuses(keys(procs(), process(0), files(), pipes(), memory(0)), 0, api.CPipe, addr)
	}
	x.numbers(files())
	x.numbers(pipes())
	x.is(0, 0, api.CPipe, 30)
	x.mem(0, 30, raw(0, 1))
}

// What goes in at one end comes out at the other one, between parent and child; a reader waits for bytes while
// somebody writes, a writer for room.
func TestP18_9PipesBetweenProcesses(t *testing.T) {
	x := boot(t, 16, 2)
	x.is(0, 0, api.CPipe, 0)
	x.is(2, 0, api.CFork)
	x.is(0, 0, api.CClose, 0)
	x.is(0, 1, api.CClose, 1)
	x.blocks(1, api.CRead, 0, 8, 1)
	x.is(0, 1, api.CRead, 0, 8, 0)
	x.is(0, 0, api.CWrite, 1, 8, 0)
	for i, b := range []byte(ink(20)) {
		x.is(0, 0, api.CStore, i, int(b))
	}
	x.is(16, 0, api.CWrite, 1, 0, 20)
	x.blocks(0, api.CWrite, 1, 16, 4)
	x.is(0, 0, api.CWrite, 1, 16, 0)
	x.is(3, 1, api.CRead, 0, 8, 3)
	x.mem(1, 8, ink(3)+noughts(1))
	x.is(3, 0, api.CWrite, 1, 16, 4)
	x.is(16, 1, api.CRead, 0, 8, 17)
	x.mem(1, 8, ink(19)[3:])
	x.blocks(1, api.CRead, 0, 0, 32)
	x.is(1, 0, api.CWrite, 1, 19, 1)
	x.is(0, 0, api.CClose, 1)
	x.is(1, 1, api.CRead, 0, 31, 1)
	x.is(0, 1, api.CRead, 0, 31, 1)
	x.mem(1, 31, ink(20)[19:])
	x.is(-1, 0, api.CRead, 0, 0, 1)
	x.is(0, 1, api.CClose, 0)
	x.numbers(pipes())
	x.numbers(files())
}

// The end that nobody reads from isn't written.
func TestP18_9AnEndThatIsGone(t *testing.T) {
	x := boot(t, 16, 2)
	x.is(0, 0, api.CPipe, 0)
	x.is(2, 0, api.CFork)
	x.is(0, 0, api.CClose, 0)
	x.is(1, 0, api.CWrite, 1, 0, 1) // the child may read it yet
	x.goes(from(2, 2), 1, api.CExit)
	x.refuses(keys(procs(), process(0), files(), fileOf(1), pipes(), pipeOf(0), memory(0)), 0, api.CWrite, 1, 0, 1)
	x.refuses(keys(procs(), process(0), files(), fileOf(1), pipes(), pipeOf(0), memory(0)), 0, api.CWrite, 1, 0, 0)
	x.refuses(keys(procs(), process(0), files(), fileOf(1), memory(0)), 0, api.CRead, 1, 0, 1)
}

// What is read and written by reads of a file, of a pipe and of the console, and by those that are refused.
func TestP18_9ReadsTellAllOfThem(t *testing.T) {
	x := boot(t, 8, 1)
	x.path(0, 0, api.COpen, "/f", making)
	x.is(0, 0, api.CPipe, 0)
	x.path(0, 0, api.CNode, "/c")
	x.path(3, 0, api.COpen, "/c", hBoth)
	write(x.s, inodeOf(2), "abcde")
	x.s.Put(pipeOf(0), lined("fgh", 1, 1))
	x.s.Put(cons(), lined("ijk", 3, 4))
	mem := x.s.Get(memory(0))
	over := func(s string) api.Value {
		then := mem
		then.S = mem.S[:8] + s + mem.S[8+len(s):]
		return then
	}
	own := keys(procs(), process(0))
	wantAct(t, "of a file", unix.Do(x.s, 0, call(api.CRead, 0, 8, 4)), api.Act{
		Ret:   4,
		Reads: append(own, files(), fileOf(0), inodeOf(2), memory(0)),
		Redo:  []api.Write{put(fileOf(0), val(node, 1, 2, 4, both)), put(memory(0), over("abcd"))},
	})
	wantAct(t, "of nothing", unix.Do(x.s, 0, call(api.CRead, 0, 8, 0)), api.Act{
		Reads: append(own, files(), fileOf(0), inodeOf(2), memory(0)),
		Redo:  []api.Write{put(fileOf(0), val(node, 1, 2, 0, both)), put(memory(0), mem)},
	})
	wantAct(t, "of a pipe", unix.Do(x.s, 0, call(api.CRead, 1, 8, 2)), api.Act{
		Ret:   2,
		Reads: append(own, files(), fileOf(1), pipes(), pipeOf(0), memory(0)),
		Redo:  []api.Write{put(pipeOf(0), lined("h", 1, 1)), put(memory(0), over("fg"))},
	})
	wantAct(t, "of the console", unix.Do(x.s, 0, call(api.CRead, 3, 8, 8)), api.Act{
		Ret:   3,
		Reads: append(own, files(), fileOf(3), inodeOf(3), cons(), memory(0)),
		Redo:  []api.Write{put(cons(), lined("", 3, 4)), put(memory(0), over("ijk"))},
	})
	write(x.s, cons(), "")
	wantAct(t, "of an empty console", unix.Do(x.s, 0, call(api.CRead, 3, 8, 8)), api.Act{
		Status: blocks,
		Reads:  append(own, files(), fileOf(3), inodeOf(3), cons(), memory(0)),
	})
	for _, fd := range append([]int{4, 5, 6, 7, 8, -1}, far()...) {
		x.refuses(own, 0, api.CRead, fd, 8, 1)
		x.refuses(own, 0, api.CWrite, fd, 8, 1)
	}
	for _, num := range []int{api.CRead, api.CWrite} {
		for _, addr := range bad(pageLen) {
			x.refuses(append(own, memory(0)), 0, num, 0, addr, 1)
			if addr != pageLen {
				x.refuses(append(own, memory(0)), 0, num, 0, addr, 0)
			}
		}
		for _, n := range append([]int{9, 10, 17, 255, -1, -8}, far()...) {
			x.refuses(append(own, memory(0)), 0, num, 0, 8, n)
		}
	}
	x.refuses(append(own, files(), fileOf(2), memory(0)), 0, api.CRead, 2, 8, 1)
	x.refuses(append(own, files(), fileOf(1), memory(0)), 0, api.CWrite, 1, 8, 1)
}

func TestP18_9WritesTellAllOfThem(t *testing.T) {
	x := boot(t, 16, 6)
	x.path(0, 0, api.COpen, "/f", making)
	x.is(0, 0, api.CPipe, 0)
	x.path(0, 0, api.CNode, "/c")
	x.path(3, 0, api.COpen, "/c", hWrite)
	write(x.s, memory(0), ink(96))
	own := keys(procs(), process(0))
	wantAct(t, "to a file", x.act(0, api.CWrite, 0, 0, 96), api.Act{
		Ret:   96,
		Reads: append(own, files(), fileOf(0), inodeOf(2), memory(0)),
		Redo:  []api.Write{put(fileOf(0), val(node, 1, 2, 96, both)), put(inodeOf(2), lined(ink(96), fileType, 1, 1))},
	})
	wantAct(t, "of nothing", unix.Do(x.s, 0, call(api.CWrite, 0, 96, 0)), api.Act{
		Reads: append(own, files(), fileOf(0), inodeOf(2), memory(0)),
		Redo:  []api.Write{put(fileOf(0), val(node, 1, 2, 96, both)), put(inodeOf(2), lined(ink(96), fileType, 1, 1))},
	})
	x.is(32, 0, api.CWrite, 0, 10, 50) // cut
	x.refuses(append(own, files(), fileOf(0), inodeOf(2), memory(0)), 0, api.CWrite, 0, 10, 1)
	x.is(0, 0, api.CWrite, 0, 10, 0)
	wantHas(t, x.s, inodeOf(2), lined(ink(96)+ink(42)[10:], fileType, 1, 1))
	wantAct(t, "to a pipe", x.act(0, api.CWrite, 2, 0, 17), api.Act{
		Ret:   16,
		Reads: append(own, files(), fileOf(2), pipes(), pipeOf(0), memory(0)),
		Redo:  []api.Write{put(pipeOf(0), lined(ink(16), 1, 1))},
	})
	wantAct(t, "to a full one", x.act(0, api.CWrite, 2, 0, 1), api.Act{
		Status: blocks,
		Reads:  append(own, files(), fileOf(2), pipes(), pipeOf(0), memory(0)),
	})
	x.is(2, 0, api.CWrite, 3, 1, 2)
	wantHas(t, x.s, cons(), val(2, 31*int(ink(2)[1])+int(ink(3)[2])))
	x.is(-1, 0, api.CRead, 3, 0, 1)
}

func TestP18_12Stat(t *testing.T) {
	x := boot(t, 8, 2)
	x.path(0, 0, api.COpen, "/f", making)
	x.path(0, 0, api.CMkdir, "/d")
	x.path(0, 0, api.CNode, "/c")
	x.path(1, 0, api.COpen, "/d", 0)
	x.path(2, 0, api.COpen, "/c", hWrite)
	x.is(0, 0, api.CPipe, 0)
	write(x.s, inodeOf(2), "abcde")
	for fd, want := range []string{raw(fileType, 2, 1, 5), raw(dirType, 3, 1, 32), raw(deviceType, 4, 1, 0)} {
		mem := x.s.Get(memory(0))
		mem.S = mem.S[:20] + want + mem.S[24:]
		wantAct(t, "a stat", unix.Do(x.s, 0, call(api.CStat, fd, 20)), api.Act{
			Reads: keys(procs(), process(0), files(), fileOf(fd), inodeOf(fd+2), memory(0)),
			Redo:  []api.Write{put(memory(0), mem)},
		})
		x.is(0, 0, api.CStat, fd, 28)
		x.mem(0, 28, want)
		for _, addr := range append(bad(32), 29, 30, 31) {
			x.refuses(keys(procs(), process(0), files(), fileOf(fd), inodeOf(fd+2), memory(0)), 0, api.CStat, fd, addr)
		}
	}
	for fd := 3; fd < 5; fd++ {
		x.refuses(keys(procs(), process(0), files(), fileOf(fd)), 0, api.CStat, fd, 0)
	}
	for _, fd := range append([]int{5, 6, -1, -8}, far()...) {
		x.refuses(keys(procs(), process(0)), 0, api.CStat, fd, 0)
	}
	set(x.s, inodeOf(2), 0, 256+fileType) // lowest bytes
	set(x.s, inodeOf(2), 1, -1)
	write(x.s, inodeOf(2), ink(300))
	x.is(0, 0, api.CStat, 0, 0)
	x.mem(0, 0, raw(fileType, 2, 255, 44))
	set(x.s, inodeOf(2), 0, 0)
	x.refuses(keys(procs(), process(0), files(), fileOf(0), inodeOf(2)), 0, api.CStat, 0, 0)
}

func TestP18_14Dup(t *testing.T) {
	x := boot(t, 8, 1)
	x.path(0, 0, api.COpen, "/f", making)
	x.path(1, 0, api.COpen, "/f", 0)
	x.is(0, 0, api.CClose, 0)
	me := x.s.Get(process(0))
	me.N[8] = 2
	wantAct(t, "a dup", x.act(0, api.CDup, 1), api.Act{
		Reads: keys(procs(), process(0), files(), fileOf(1)),
		Redo:  []api.Write{put(process(0), me), put(fileOf(1), val(node, 2, 2, 0, reads))},
	})
	for fd := 2; fd < maxFd; fd++ {
		x.is(fd, 0, api.CDup, fd%2)
	}
	x.numbers(fileOf(1), node, maxFd, 2, 0, reads)
	x.refuses(keys(procs(), process(0)), 0, api.CDup, 0)
	x.is(0, 0, api.CClose, 3)
	for _, fd := range append([]int{3, 6, -1, -8}, far()...) {
		x.refuses(keys(procs(), process(0)), 0, api.CDup, fd)
	}
	x.is(3, 0, api.CDup, 5)
	// what isn't open any more
	x.is(0, 0, api.CClose, 2)
	set(x.s, files(), 0, 0)
	x.refuses(keys(procs(), process(0), files()), 0, api.CDup, 0)
}

func TestP18_14Close(t *testing.T) {
	x := boot(t, 8, 1)
	x.path(0, 0, api.COpen, "/f", making)
	x.is(1, 0, api.CDup, 0)
	me := x.s.Get(process(0))
	me.N[8] = 0
	wantAct(t, "a close", x.act(0, api.CClose, 0), api.Act{
		Reads: keys(procs(), process(0), files(), fileOf(0)),
		Redo:  []api.Write{put(process(0), me), put(fileOf(0), val(node, 1, 2, 0, both))},
	})
	me.N[9] = 0
	wantAct(t, "the last one", x.act(0, api.CClose, 1), api.Act{
		Reads: keys(procs(), process(0), files(), fileOf(0), inodeOf(2)),
		Redo:  []api.Write{put(process(0), me), put(files(), zero), put(fileOf(0), zero), put(inodeOf(2), val(fileType, 1, 0))},
	})
	for _, fd := range append([]int{0, 1, 5, 6, -1, -8}, far()...) {
		x.refuses(keys(procs(), process(0)), 0, api.CClose, fd)
	}
	// a file that isn't open any more is closed all the same
	set(x.s, process(0), 8+5, 12)
	wantAct(t, "a lost one", x.act(0, api.CClose, 5), api.Act{
		Reads: keys(procs(), process(0), files()),
		Redo:  []api.Write{put(process(0), me)},
	})
	for _, n := range []int{13, 14, -1, most, least} {
		set(x.s, process(0), 8, n)
		x.refuses(keys(procs(), process(0)), 0, api.CClose, 0)
	}
}

func TestP18_16Hows(t *testing.T) {
	for how, mode := range map[int]int{0: reads, hWrite: writes, hBoth: both, hCreate: reads, hCreate + hWrite: writes, making: both} {
		x := boot(t, 8, 2)
		x.path(0, 0, api.CNode, "/c")
		x.path(0, 0, api.CMkdir, "/d")
		x.path(0, 0, api.COpen, "/f", making)
		x.path(1, 0, api.COpen, "/f", how)
		x.numbers(fileOf(1), node, 1, 4, 0, mode)
		x.numbers(inodeOf(4), fileType, 1, 2)
		x.path(2, 0, api.COpen, "/c", how)
		x.numbers(fileOf(2), node, 1, 2, 0, mode)
		x.numbers(inodeOf(2), deviceType, 1, 1)
		want := -1
		if how == 0 {
			want = 3
		}
		for _, s := range []string{"/d", "/d/.", "/d/.."} { // what has a name isn't created, and directories are read alone
			x.path(want, 0, api.COpen, s, how)
			if how == 0 {
				want++
			}
		}
		if how&hCreate == 0 {
			x.path(-1, 0, api.COpen, "/g", how)
			continue
		}
		x.path(3, 0, api.COpen, "/g", how)
		x.numbers(fileOf(3), node, 1, 5, 0, mode)
		x.numbers(inodeOf(5), fileType, 1, 1)
	}
	x := boot(t, 8, 2)
	x.text(0, 0, "/f")
	for _, how := range append([]int{3, 4, -1, -2, -512, -511, 8, 511, 515, 516, 1023, 1024, 1025, 1026, 1536}, far()...) {
		x.refuses(keys(procs(), process(0)), 0, api.COpen, 0, how)
	}
	x.numbers(inodes(), 3)
}

func TestP18_16OpenTellsAllOfIt(t *testing.T) {
	x := boot(t, 8, 1)
	x.path(0, 0, api.COpen, "/f", making)
	x.is(0, 0, api.CClose, 0)
	me := x.s.Get(process(0))
	me.N[8] = 1
	for _, how := range []int{hBoth, making} {
		wantAct(t, "an open", unix.Do(x.s, 0, call(api.COpen, 0, how)), api.Act{
			Reads: keys(procs(), process(0), files(), inodeOf(1), inodeOf(2), memory(0)),
			Redo:  []api.Write{put(process(0), me), put(files(), val(1)), put(fileOf(0), val(node, 1, 2, 0, both)), put(inodeOf(2), val(fileType, 1, 1))},
		})
	}
	for _, how := range []int{0, making} {
		for _, addr := range bad(pageLen) {
			x.refuses(keys(procs(), process(0), memory(0)), 0, api.COpen, addr, how)
		}
	}
	x.text(0, 0, "/d/f")
	for _, how := range []int{0, making} {
		x.refuses(keys(procs(), process(0), inodeOf(1), memory(0)), 0, api.COpen, 0, how)
	}
}

// An open that finds no descriptor or no file has made nothing, either.
func TestP18_16OpensUpToTheTablesEnds(t *testing.T) {
	for fds := 4; fds <= maxFd; fds++ {
		x := boot(t, 8, 1)
		fill(x, fds)
		if fds == maxFd {
			x.text(0, 0, "/f")
			x.refuses(keys(procs(), process(0), inodeOf(1), inodeOf(2), memory(0)), 0, api.COpen, 0, 0)
			x.text(0, 0, "/g")
			x.refuses(keys(procs(), process(0), inodes(), inodeOf(1), inodeOf(3), memory(0)), 0, api.COpen, 0, making)
			x.numbers(inodeOf(3))
			continue
		}
		x.path(fds, 0, api.COpen, "/g", making)
	}
	for left := range 2 {
		x := boot(t, 8, 1)
		set(x.s, files(), 0, free(maxFiles-left))
		x.text(0, 0, "/g")
		if left == 0 {
			x.refuses(keys(procs(), process(0), files(), inodes(), inodeOf(1), inodeOf(2), memory(0)), 0, api.COpen, 0, making)
			x.numbers(inodeOf(2))
			continue
		}
		x.is(0, 0, api.COpen, 0, making)
		x.numbers(process(0), alive, 0, 1, 0, root, 0, 0, 0, maxFiles)
	}
}

// A file that is unlinked while it is open is read to its end.
func TestP18_18AnOpenFileWithoutAName(t *testing.T) {
	x := boot(t, 8, 2)
	x.path(0, 0, api.COpen, "/f", making)
	x.text(0, 8, "hello you")
	x.is(9, 0, api.CWrite, 0, 8, 9)
	x.path(1, 0, api.COpen, "/f", 0)
	x.is(2, 0, api.CRead, 1, 20, 2)
	x.path(0, 0, api.CUnlink, "/f")
	x.is(0, 0, api.CClose, 0)
	x.path(0, 0, api.COpen, "/f", making) // another one
	x.is(7, 0, api.CRead, 1, 20, 12)
	x.mem(0, 20, "llo you")
	x.is(0, 0, api.CRead, 1, 20, 12)
	x.numbers(inodeOf(2), fileType, 0, 1)
	x.numbers(inodeOf(3), fileType, 1, 1)
	x.is(0, 0, api.CClose, 1)
	x.numbers(inodeOf(2))
	x.is(0, 0, api.CRead, 0, 20, 12)
}
