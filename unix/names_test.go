package unix_test

import (
	"strings"
	"testing"

	"cloister/api"
	"cloister/unix"
)

// dots are the two first entries of a directory.
func dots(i, up int) string { return entry(".", i) + entry("..", up) }

// own are the objects of which each call of the first process asks that has a path.
func own(l ...api.Key) []api.Key {
	return append(append(keys(procs(), process(0)), l...), memory(0))
}

func TestP18_13Chdir(t *testing.T) {
	x := boot(t, 8, 2)
	x.path(0, 0, api.CMkdir, "/a")
	x.path(0, 0, api.CMkdir, "/a/b")
	x.path(0, 0, api.COpen, "/f", making)
	x.path(0, 0, api.CNode, "/c")
	me := x.s.Get(process(0))
	me.N[4] = 3
	x.text(0, 0, "/a/b")
	wantAct(t, "a chdir", x.act(0, api.CChdir, 0), api.Act{
		Reads: own(inodeOf(1), inodeOf(2), inodeOf(3)),
		Redo: []api.Write{
			put(process(0), me),
			put(inodeOf(1), lined(dots(1, 1)+entry("a", 2)+entry("f", 4)+entry("c", 5), dirType, 2, 0)),
			put(inodeOf(3), lined(dots(3, 2), dirType, 1, 1)),
		},
	})
	for _, s := range []string{"none", "/f", "/c", "/f/.", "", "a/b/c/d", "../../f"} {
		x.path(-1, 0, api.CChdir, s)
	}
	for _, s := range []string{".", "/a/b", "../b", "./.././b//"} { // where it is
		x.path(0, 0, api.CChdir, s)
		x.numbers(inodeOf(3), dirType, 1, 1)
	}
	for _, addr := range bad(32) {
		x.refuses(own(), 0, api.CChdir, addr)
	}
	x.path(0, 0, api.CChdir, "..")
	x.numbers(inodeOf(2), dirType, 2, 1)
	x.path(0, 0, api.CChdir, "..")
	x.path(0, 0, api.CChdir, "..")
	x.numbers(inodeOf(1), dirType, 2, 1)
}

// A directory that nobody says any more goes with its last holder.
func TestP18_13TheLastHolderLeaves(t *testing.T) {
	x := boot(t, 8, 1)
	x.path(0, 0, api.CMkdir, "/a")
	x.path(0, 0, api.CChdir, "/a")
	x.is(2, 0, api.CFork)
	x.path(0, 0, api.CUnlink, "/a")
	x.numbers(inodeOf(2), dirType, 0, 2)
	x.path(0, 0, api.CChdir, "/")
	x.numbers(inodeOf(2), dirType, 0, 1)
	x.path(-1, 0, api.CChdir, "/a")
	x.path(0, 1, api.CChdir, "..")
	wantHas(t, x.s, inodeOf(2), zero)
	x.numbers(inodes(), 3)
	x.numbers(inodeOf(1), dirType, 1, 2)
	// one whose directory was none has one then
	set(x.s, process(0), 4, 9)
	x.path(-1, 0, api.CChdir, ".")
	x.path(0, 0, api.CChdir, "/")
	x.numbers(inodeOf(1), dirType, 1, 3)
}

// A directory that is unlinked stays somebody's: one who goes to where it is doesn't lose it, may leave it by its
// names, and makes nothing in it.
func TestP18_13WhereNoNameLeads(t *testing.T) {
	x := boot(t, 8, 1)
	x.path(0, 0, api.CMkdir, "/a")
	x.path(0, 0, api.CChdir, "/a")
	x.path(0, 0, api.CUnlink, "/a")
	for range 3 {
		x.path(0, 0, api.CChdir, ".")
		wantHas(t, x.s, inodeOf(2), lined(dots(2, 1), dirType, 0, 1))
	}
	for _, num := range []int{api.CMkdir, api.CNode} {
		x.text(0, 0, "x")
		x.refuses(own(inodeOf(2)), 0, num, 0)
	}
	x.refuses(own(inodeOf(2)), 0, api.COpen, 0, making)
	x.path(0, 0, api.COpen, ".", 0)
	x.path(1, 0, api.COpen, "../y", making)
	x.path(0, 0, api.CChdir, "..")
	x.numbers(inodeOf(2), dirType, 0, 1) // it is open yet
	x.is(0, 0, api.CClose, 0)
	wantHas(t, x.s, inodeOf(2), zero)
}

func TestP18_17MkdirAndNodeTellAllOfThem(t *testing.T) {
	x := boot(t, 8, 1)
	x.text(0, 0, "/a")
	wantAct(t, "a mkdir", x.act(0, api.CMkdir, 0), api.Act{
		Reads: own(inodes(), inodeOf(1), inodeOf(2)),
		Redo: []api.Write{
			put(inodes(), val(7)),
			put(inodeOf(1), lined(dots(1, 1)+entry("a", 2), dirType, 2, 1)),
			put(inodeOf(2), lined(dots(2, 1), dirType, 1)),
		},
	})
	x.text(0, 0, "a/n")
	wantAct(t, "a node", x.act(0, api.CNode, 0), api.Act{
		Reads: own(inodes(), inodeOf(1), inodeOf(2), inodeOf(3)),
		Redo: []api.Write{
			put(inodes(), val(15)),
			put(inodeOf(2), lined(dots(2, 1)+entry("n", 3), dirType, 1)),
			put(inodeOf(3), val(deviceType, 1)),
		},
	})
	x.text(0, 0, "a/f")
	wantAct(t, "a file", x.act(0, api.COpen, 0, making), api.Act{
		Reads: own(files(), inodes(), inodeOf(1), inodeOf(2), inodeOf(4)),
		Redo: []api.Write{
			put(process(0), lined(raw(0), alive, 0, 1, 0, root, 0, 0, 0, 1)),
			put(files(), val(1)),
			put(fileOf(0), val(node, 1, 4, 0, both)),
			put(inodes(), val(31)),
			put(inodeOf(2), lined(dots(2, 1)+entry("n", 3)+entry("f", 4), dirType, 1)),
			put(inodeOf(4), val(fileType, 1, 1)),
		},
	})
	// what has a name isn't made again, and isn't asked for it, but for files
	for _, s := range []string{"a/n", "a/f", "a/.", "a/.."} {
		for _, num := range []int{api.CMkdir, api.CNode} {
			x.text(0, 0, s)
			x.refuses(own(inodeOf(1), inodeOf(2)), 0, num, 0)
		}
	}
	x.text(0, 0, "a/.")
	x.refuses(own(inodeOf(1), inodeOf(2)), 0, api.COpen, 0, making)
	x.text(0, 0, "a")
	x.refuses(own(inodeOf(1), inodeOf(2)), 0, api.COpen, 0, hCreate)
	for _, s := range []string{"/", "//", "", "none/x", "a/n/x", "a/f/x", strings.Repeat("n", 15)} {
		for _, num := range []int{api.CMkdir, api.CNode} {
			x.path(-1, 0, num, s)
		}
	}
	for _, addr := range bad(pageLen) {
		for _, num := range []int{api.CMkdir, api.CNode} {
			x.refuses(own(), 0, num, addr)
		}
	}
}

// A path of as many bytes as it may have, and of one more; one that has no end.
func TestP18_17LongPaths(t *testing.T) {
	x := boot(t, 8, 6)
	for n := 50; n <= maxPath+3; n++ {
		s := strings.Repeat("/", n-1) + "d"
		x.text(0, 7, s)
		if n > maxPath {
			for _, num := range []int{api.CMkdir, api.CNode, api.COpen, api.CChdir, api.CUnlink, api.CExec, api.CLink} {
				x.refuses(own(), 0, num, 7)
			}
			continue
		}
		x.is(0, 0, api.CMkdir, 7)
		x.is(0, 0, api.CUnlink, 7)
	}
	// of a link's two paths both are asked ahead of the first one's way
	x.path(0, 0, api.CNode, "f")
	x.text(0, 7, strings.Repeat("/", maxPath)+"d")
	x.refuses(own(), 0, api.CLink, 0, 7)
	x.refuses(own(), 0, api.CLink, 7, 0)
	x.text(0, 7, strings.Repeat("/", maxPath-1)+"d")
	x.is(0, 0, api.CLink, 0, 7)
	x.text(0, 0, strings.Repeat("x", 14))
	x.is(0, 0, api.CMkdir, 0)
	x.text(0, 0, strings.Repeat("x", 15))
	x.refuses(own(), 0, api.CMkdir, 0)
	write(x.s, memory(0), noughts(90)+"/end/x")
	x.refuses(own(), 0, api.CMkdir, 90)
	x.refuses(own(), 0, api.COpen, 90, 0)
	x.refuses(own(), 0, api.CMkdir, 89) // a path of no byte
}

// Every inode is had, and every entry of a directory, before there is none.
func TestP18_17UpToTheTablesEnds(t *testing.T) {
	x := boot(t, 8, 2)
	x.path(0, 0, api.CMkdir, "/d")
	for i := range 6 { // of each directory's eight entries two are had from the beginning on
		x.path(0, 0, api.CNode, "/d/"+string(rune('a'+i)))
	}
	x.text(0, 0, "/d/g")
	for _, num := range []int{api.CNode, api.CMkdir} {
		x.refuses(own(inodes(), inodeOf(1), inodeOf(2)), 0, num, 0)
	}
	x.refuses(own(inodes(), inodeOf(1), inodeOf(2)), 0, api.COpen, 0, making)
	x.numbers(inodes(), free(9))
	x.path(0, 0, api.CMkdir, "/e")
	for i := range 5 {
		x.path(0, 0, api.CMkdir, "/e/"+string(rune('a'+i)))
	}
	x.numbers(inodes(), free(15))
	x.path(0, 0, api.CMkdir, "/e/f") // the last inode, and the last entry
	x.numbers(inodeOf(9), dirType, 7)
	x.text(0, 0, "/x")
	x.refuses(own(inodes(), inodeOf(1)), 0, api.CNode, 0)
	x.refuses(own(inodes(), inodeOf(1)), 0, api.CMkdir, 0)
	x.refuses(own(inodes(), inodeOf(1)), 0, api.COpen, 0, making)
	x.path(0, 0, api.CUnlink, "/d/c")
	x.path(0, 0, api.COpen, "/d/x", making)
	wantHas(t, x.s, inodeOf(5), val(fileType, 1, 1))
}

// Nothing is made in a directory that no name leads to.
func TestP18_17NoLink(t *testing.T) {
	for _, links := range []int{0, -1, least, 1, 2, most} {
		x := boot(t, 8, 2)
		x.path(0, 0, api.CMkdir, "/a")
		x.path(0, 0, api.COpen, "/f", making)
		x.path(1, 0, api.COpen, "/a/g", making)
		x.path(0, 0, api.CChdir, "/a")
		set(x.s, inodeOf(2), 1, links)
		if links > 0 {
			x.path(0, 0, api.CNode, "n")
			x.path(2, 0, api.COpen, "m", making)
			continue
		}
		for _, s := range []string{"n", "g"} {
			x.text(0, 0, s)
			x.refuses(own(inodeOf(2)), 0, api.CNode, 0)
			x.refuses(own(inodeOf(2)), 0, api.CMkdir, 0)
			x.refuses(own(inodeOf(2)), 0, api.COpen, 0, making)
			x.text(0, 8, "/f")
			x.refuses(own(inodeOf(1), inodeOf(2), inodeOf(3)), 0, api.CLink, 8, 0)
		}
		x.path(2, 0, api.COpen, "g", hBoth)
		x.path(0, 0, api.CUnlink, "g")
	}
}

// What a name leads to must be an inode, and no directory, to be opened as created.
func TestP18_17NamesOfWhatIsNone(t *testing.T) {
	x := boot(t, 8, 2)
	write(x.s, inodeOf(1), dots(1, 1)+entry("z", 9)+entry("y", 15)+entry("x", 16)+entry("w", 256+3))
	x.text(0, 0, "z")
	x.refuses(own(inodeOf(1), inodeOf(9)), 0, api.COpen, 0, making)
	x.refuses(own(inodeOf(1), inodeOf(9)), 0, api.COpen, 0, 0)
	x.refuses(own(inodeOf(1)), 0, api.CNode, 0)
	x.refuses(own(inodeOf(1), inodeOf(9)), 0, api.CUnlink, 0)
	for _, typ := range []int{fileType, deviceType, 4, -1, most, least} {
		x.s.Put(inodeOf(15), val(typ, 1))
		x.path(0, 0, api.COpen, "y", making)
		x.is(0, 0, api.CClose, 0)
	}
	x.s.Put(inodeOf(15), val(dirType, 1))
	x.text(0, 0, "y")
	x.refuses(own(inodeOf(1), inodeOf(15)), 0, api.COpen, 0, making)
	x.refuses(own(inodeOf(1), inodeOf(15)), 0, api.COpen, 0, hWrite)
	x.is(0, 0, api.COpen, 0, 0)
	x.path(0, 0, api.CMkdir, "x") // its entry was free
	wantHas(t, x.s, inodeOf(1), lined(dots(1, 1)+entry("z", 9)+entry("y", 15)+entry("x", 2)+entry("w", 256+3), dirType, 2, 1))
}

func TestP18_18UnlinkTellsAllOfIt(t *testing.T) {
	x := boot(t, 8, 2)
	x.path(0, 0, api.CMkdir, "/a")
	x.path(0, 0, api.CMkdir, "/a/b")
	x.path(0, 0, api.COpen, "/a/f", making)
	x.path(0, 0, api.CNode, "/a/n")
	x.text(0, 0, "/a/f")
	wantAct(t, "of a file that is open", x.act(0, api.CUnlink, 0), api.Act{
		Reads: own(inodeOf(1), inodeOf(2), inodeOf(4)),
		Redo:  []api.Write{put(inodeOf(2), lined(dots(2, 1)+entry("b", 3)+entry("", 0)+entry("n", 5), dirType, 2)), put(inodeOf(4), val(fileType, 0, 1))},
	})
	x.text(0, 0, "/a/n")
	wantAct(t, "of a device", x.act(0, api.CUnlink, 0), api.Act{
		Reads: own(inodes(), inodeOf(1), inodeOf(2), inodeOf(5)),
		Redo:  []api.Write{put(inodes(), val(31)), put(inodeOf(2), lined(dots(2, 1)+entry("b", 3)+entry("", 0)+entry("", 0), dirType, 2)), put(inodeOf(5), zero)},
	})
	x.text(0, 0, "/a/b")
	wantAct(t, "of a directory", x.act(0, api.CUnlink, 0), api.Act{
		Reads: own(inodes(), inodeOf(1), inodeOf(2), inodeOf(3)),
		Redo:  []api.Write{put(inodes(), val(23)), put(inodeOf(2), lined(dots(2, 1)+noughts(48), dirType, 1)), put(inodeOf(3), zero)},
	})
	x.text(0, 0, "/a")
	x.is(0, 0, api.CUnlink, 0)
	x.numbers(inodes(), 19)
	x.numbers(inodeOf(1), dirType, 1, 1)
	x.refuses(own(inodeOf(1)), 0, api.CUnlink, 0)
	x.is(0, 0, api.CClose, 0)
	x.numbers(inodes(), 3)
}

func TestP18_18WhatIsntUnlinked(t *testing.T) {
	x := boot(t, 8, 2)
	x.path(0, 0, api.CMkdir, "/a")
	x.path(0, 0, api.CMkdir, "/a/b")
	x.path(0, 0, api.COpen, "/a/b/f", making)
	x.path(0, 0, api.CChdir, "/a/b")
	was := x.s.Twin()
	for _, s := range []string{"/a", "/a/b", ".", "..", "/a/.", "/a/..", "/.", "/..", "/", "//", "", "none", "/none/x", "f/x", "../b/."} {
		x.path(-1, 0, api.CUnlink, s)
	}
	for _, addr := range bad(32) {
		x.refuses(own(), 0, api.CUnlink, addr)
	}
	for _, s := range []string{".", ".."} {
		x.text(0, 0, s)
		x.refuses(own(inodeOf(3)), 0, api.CUnlink, 0)
	}
	x.text(0, 0, "/a")
	x.refuses(own(inodeOf(1), inodeOf(2)), 0, api.CUnlink, 0)
	was.Put(memory(0), x.s.Get(memory(0)))
	wantSame(t, "nothing was unlinked", x.s, was)
}

// A directory is bare with two names, or none; what is no directory need not be.
func TestP18_18Bare(t *testing.T) {
	for s, want := range map[string]int{
		"":                              0,
		dots(2, 1):                      0,
		entry(".", 2):                   0,
		dots(2, 1) + entry("x", 0):      0,
		dots(2, 1) + entry("x", 16):     0,
		dots(2, 1) + entry("x", 3):      -1,
		entry("...", 15):                -1,
		dots(2, 1) + entry("", 1):       -1,
		dots(2, 1) + entry("x", 3)[:15]: 0,
		strings.Repeat(dots(1, 1), 4) + entry("x", 3):   0,
		strings.Repeat(entry("", 0), 7) + entry("x", 3): -1,
	} {
		x := boot(t, 8, 2)
		x.path(0, 0, api.CMkdir, "/a")
		write(x.s, inodeOf(2), s)
		x.path(want, 0, api.CUnlink, "/a")
		set(x.s, inodeOf(2), 0, fileType)
		x.path(-1-want, 0, api.CUnlink, "/a")
	}
}

// A file has as many links as names; with the last one it goes, if nobody has it open.
func TestP18_19Links(t *testing.T) {
	x := boot(t, 8, 3)
	x.path(0, 0, api.CMkdir, "/d")
	x.path(0, 0, api.CNode, "/f")
	x.text(0, 0, "/f")
	x.text(0, 20, "d/g")
	wantAct(t, "a link", x.act(0, api.CLink, 0, 20), api.Act{
		Reads: own(inodeOf(1), inodeOf(2), inodeOf(3)),
		Redo:  []api.Write{put(inodeOf(2), lined(dots(2, 1)+entry("g", 3), dirType, 1)), put(inodeOf(3), val(deviceType, 2))},
	})
	x.refuses(own(inodeOf(1), inodeOf(2), inodeOf(3)), 0, api.CLink, 0, 20)
	x.text(0, 20, "/h")
	x.is(0, 0, api.CLink, 0, 20)
	x.numbers(inodeOf(3), deviceType, 3)
	for n, s := range []string{"/f", "/h", "/d/g"} {
		x.path(0, 0, api.COpen, s, 0)
		x.path(0, 0, api.CUnlink, s)
		x.path(-1, 0, api.COpen, s, 0)
		x.numbers(inodeOf(3), deviceType, 2-n, 1)
		x.is(0, 0, api.CClose, 0)
	}
	x.numbers(inodeOf(3))
	x.numbers(inodes(), 7)
}

func TestP18_19WhatIsntLinked(t *testing.T) {
	x := boot(t, 8, 4)
	x.path(0, 0, api.CMkdir, "/d")
	x.path(0, 0, api.CNode, "/f")
	for _, q := range []struct {
		a, b string
		read []api.Key
	}{
		{"", "/x", own()},
		{"/none", "/x", own(inodeOf(1))},
		{"/d", "/x", own(inodeOf(1), inodeOf(2))},
		{"/", "/x", own(inodeOf(1))},
		{"/d/.", "/x", own(inodeOf(1), inodeOf(2))},
		{"/f", "", own(inodeOf(1), inodeOf(3))},
		{"/f", "/", own(inodeOf(1), inodeOf(3))},
		{"/f", "/none/x", own(inodeOf(1), inodeOf(3))},
		{"/f", "/f/x", own(inodeOf(1), inodeOf(3))},
		{"/f", "/f", own(inodeOf(1), inodeOf(3))},
		{"/f", "/d", own(inodeOf(1), inodeOf(3))},
		{"/f", "/d/.", own(inodeOf(1), inodeOf(2), inodeOf(3))},
		{"/f", "/123456789012345", own(inodeOf(1), inodeOf(3))},
	} {
		x.text(0, 0, q.a)
		x.text(0, 20, q.b)
		x.refuses(q.read, 0, api.CLink, 0, 20)
	}
	x.text(0, 0, "/f")
	x.text(0, 20, "/g")
	for _, addr := range bad(64) {
		x.refuses(own(), 0, api.CLink, addr, 20)
		x.refuses(own(), 0, api.CLink, 0, addr) // nothing is walked for it
		x.refuses(own(), 0, api.CLink, addr, addr)
	}
	// no room
	for i := range 4 {
		x.path(0, 0, api.CNode, string(rune('m'+i)))
	}
	x.text(0, 0, "/f")
	x.refuses(own(inodeOf(1), inodeOf(3)), 0, api.CLink, 0, 20)
	x.text(0, 20, "/d/g")
	x.is(0, 0, api.CLink, 0, 20)
}

// The name is made ahead of the link: where it can't be, the inode isn't asked to have one more, by which one that had
// fewer than none goes.
func TestP18_19TheNameComesFirst(t *testing.T) {
	x := boot(t, 8, 2)
	x.path(0, 0, api.CMkdir, "/d")
	x.path(0, 0, api.CNode, "/f")
	set(x.s, inodeOf(3), 1, -1)
	x.text(0, 0, "/f")
	x.text(0, 20, "/d")
	x.refuses(own(inodeOf(1), inodeOf(3)), 0, api.CLink, 0, 20)
	x.text(0, 20, "/g")
	x.is(0, 0, api.CLink, 0, 20)
	wantHas(t, x.s, inodeOf(3), zero)
	x.numbers(inodes(), 7)
}

// Directories of processes are their own; what stands in them is all the same.
func TestP18_17WhoseDirectory(t *testing.T) {
	x := boot(t, 16, 1)
	x.path(0, 0, api.CMkdir, "/a")
	x.is(2, 0, api.CFork)
	x.path(0, 1, api.CChdir, "a")
	x.path(0, 1, api.CMkdir, "b")
	x.path(0, 0, api.COpen, "a/b/f", making)
	x.path(0, 1, api.COpen, "b/f", 0)
	x.path(-1, 0, api.CUnlink, "b/f")
	x.path(0, 1, api.CUnlink, "b/f")
	x.path(0, 0, api.CUnlink, "a/b")
	x.numbers(inodeOf(4), fileType, 0, 2)
	if a := unix.Do(x.s, 1, call(api.CPid)); a.Ret != 2 {
		t.Error(a)
	}
}
