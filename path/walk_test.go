package path_test

import (
	"math"
	"slices"
	"strconv"
	"strings"
	"testing"

	"cloister/api"
	"cloister/store"
)

func TestP12_1Walk(t *testing.T) {
	v := tree().view()
	for _, q := range []struct {
		cwd  int
		p    string
		want int
	}{
		{1, "/", 1}, {5, "/", 1}, {5, "/a", 2}, {1, "a", 2}, {1, "/a/b", 5}, {1, "a/b", 5}, {2, "b", 5}, {2, "/b", 0}, {1, "b", 0}, {1, "/a/b/c", 7}, {5, "c", 7}, {2, "b/c/d", 8}, {1, "/a/b/c/d", 8}, {8, "/a/b/c/d", 8},
		{1, "/f", 3}, {1, "f", 3}, {2, "f", 6}, {1, "/a/f", 6}, {1, "/dev", 4}, {15, "last", 15}, {1, "last/last/a", 2}, {1, "/last", 15},
		{5, "fourteen.bytes", 8}, {1, "/a/b/fourteen.bytes", 8}, {1, "/a/b/fourteen.byte", 0}, {1, "/a/b/fourteen.bytez", 0},
		{1, "/A", 0}, {1, "/aa", 0}, {1, "/a ", 0}, {1, "/a/x", 0}, {1, "/x", 0}, {1, "/x/b", 0}, {1, "/a/x/c", 0}, {8, "a", 0}, {8, ".", 0},
	} {
		wantWalk(t, v, q.cwd, q.p, q.want)
	}
}

// Slashes beside each other, ahead of all names and behind all.
func TestP12_1Slashes(t *testing.T) {
	v := tree().view()
	for _, q := range []struct {
		cwd  int
		p    string
		want int
	}{
		{1, "//", 1}, {7, "///", 1}, {1, "//a", 2}, {1, "///a///b///", 5}, {1, "a//b", 5}, {1, "a/", 2}, {2, "b/////////c", 7}, {2, "b//", 5}, {2, "//b", 0}, {1, "/f/", 3}, {1, "f//", 3}, {2, "f///", 6}, {1, "/x//", 0}, {1, "f//a", 0},
	} {
		wantWalk(t, v, q.cwd, q.p, q.want)
	}
	for n := 1; n <= maxPath; n++ {
		slashes := strings.Repeat("/", n)
		wantWalk(t, v, 0, slashes, root)
		wantParent(t, v, 1, slashes, 0, "")
		if n < maxPath {
			wantWalk(t, v, 5, slashes+"a", 2)
			wantWalk(t, v, 1, "a"+slashes, 2)
			wantParent(t, v, 5, slashes+"a", 1, "a")
			wantParent(t, v, 2, "a"+slashes, 2, "a")
		}
		if n < maxPath-1 {
			wantWalk(t, v, 1, "a"+slashes+"b", 5)
			wantParent(t, v, 1, "a"+slashes+"b", 2, "b")
		}
	}
}

// "." and ".." are what a directory has under them, and nothing where it hasn't.
func TestP12_1Dots(t *testing.T) {
	v := tree().view()
	for _, q := range []struct {
		cwd  int
		p    string
		want int
	}{
		{1, ".", 1}, {1, "..", 1}, {1, "/.", 1}, {1, "/..", 1}, {1, "/../..", 1}, {2, ".", 2}, {2, "..", 1}, {2, "../a", 2}, {2, "./b", 5}, {2, "./././.", 2}, {7, "..", 5}, {7, "../c/../c/./d", 8}, {15, "../a", 2}, {1, "a/../a/./../f", 3},
		{5, ".", 0}, {5, "..", 0}, {7, "../..", 0}, {7, "../.", 0}, {8, ".", 0}, {8, "..", 0}, {1, "/a/b/.", 0}, {1, "/a/b/..", 0}, {1, "/a/b/c/d/..", 0}, {1, "/f/.", 0}, {1, "/f/..", 0}, {1, "/x/..", 0}, {1, "...", 0},
	} {
		wantWalk(t, v, q.cwd, q.p, q.want)
	}
	v = world{1: folder("..:2 .:3 ...:4"), 2: folder(".:3 ..:4"), 3: {api.TFile, ""}, 4: folder("..:2 a:3")}.view()
	for p, want := range map[string]int{"..": 2, ".": 3, "...": 4, "/..": 2, "/../.": 3, "/../..": 4, "/../../..": 2, ".../a": 3, "./.": 0, "../a": 0, "../../a": 3} {
		wantWalk(t, v, 1, p, want)
	}
}

// What is found must be an inode: a name of what is gone leads nowhere, and so does one whose number can be none.
func TestP12_1NumbersOfNoInode(t *testing.T) {
	for _, n := range []int{0, 9, 16, 17, 256, 257, 258, 65535} {
		for behind := range 2 {
			l := "x:" + strconv.Itoa(n) + strings.Repeat(" y:2", behind)
			v := world{1: folder(".:1 " + l), 2: folder(l), 9: {0, entry("x", 1)}}.view()
			for _, p := range []string{"x", "/x", "/x/", "/./x", "x/x", "/x/.", "x/y"} {
				wantWalk(t, v, 1, p, 0)
			}
			wantWalk(t, v, 2, "x", 0)
			wantWalk(t, v, 1, "y", 2*behind)
		}
	}
}

// The first entry that is there is the one, be its number an inode's or not; one that isn't there is passed over.
func TestP12_1SameNameTwice(t *testing.T) {
	for _, q := range []struct {
		l    string
		want int
	}{
		{"x:2 x:3", 2}, {"x:3 x:2", 3}, {"x:9 x:2", 0}, {"x:0 x:2", 2}, {"x:16 x:3", 3}, {"x:257 x:0 x:2 x:3", 2}, {"x:0 x:9 x:2", 0}, {"x:1 x:9", 1},
	} {
		v := world{1: folder(q.l), 2: folder(""), 3: {api.TFile, ""}}.view()
		wantWalk(t, v, 1, "x", q.want)
		wantWalk(t, v, 1, "/x", q.want)
	}
}

func TestP12_1WrongPaths(t *testing.T) {
	w := tree()
	w[1] = node{api.TDir, w[1].bytes + "/\x00" + entry("", 2) + strings.Repeat("x", 14) + "\x02\x00"}
	v := w.view()
	for _, p := range wrongPaths() {
		for cwd := range maxInodes + 1 {
			wantWalk(t, v, cwd, p, 0)
			wantParent(t, v, cwd, p, 0, "")
		}
		for _, cwd := range strangers() {
			wantWalk(t, v, cwd, p, 0)
			wantParent(t, v, cwd, p, 0, "")
		}
	}
}

// A directory may have names that no path can tell: they aren't found, not even name by name.
func TestP12_1NamesThatAreNotRight(t *testing.T) {
	v := world{1: {api.TDir, entry("a/b", 2) + entry("/a", 2) + entry("", 2) + entry("/", 2) + "c\x00d" + strings.Repeat("\x00", 11) + "\x02\x00"}, 2: folder("b:2 a:2")}.view()
	for _, p := range []string{"a/b", "/a/b", "/a", "a", "b", "/c/d", "d", "a/b/", "//a/b"} {
		wantWalk(t, v, 1, p, 0)
	}
	wantWalk(t, v, 1, "c", 2)
	wantWalk(t, v, 2, "/", 1)
}

// The beginning is asked even if no name is behind it, and cwd only if p doesn't begin with a slash.
func TestP12_1Beginnings(t *testing.T) {
	w := tree()
	v := w.view()
	for _, cwd := range append(strangers(), 9, 10, 11, 14) {
		for _, p := range []string{"a", ".", "..", "f", "a/b", "x"} {
			wantWalk(t, v, cwd, p, 0)
			wantParent(t, v, cwd, p, 0, "")
			wantParent(t, v, cwd, p+"/x", 0, "")
		}
		wantWalk(t, v, cwd, "/", 1)
		wantWalk(t, v, cwd, "/a/b", 5)
		wantParent(t, v, cwd, "/a/b", 2, "b")
		wantParent(t, v, cwd, "/b", 1, "b")
	}
	for _, cwd := range []int{3, 4, 6} {
		for _, p := range []string{"a", ".", "..", "a/b"} {
			wantWalk(t, v, cwd, p, 0)
			wantParent(t, v, cwd, p, 0, "")
		}
		wantWalk(t, v, cwd, "/a/b", 5)
		wantParent(t, v, cwd, "/a/b", 2, "b")
	}
}

// The root may be anything: what it isn't, no path begins at.
func TestP12_1AnyRoot(t *testing.T) {
	for _, typ := range []int{0, api.TDir, api.TFile, api.TDevice, -1, 4, 257, math.MaxInt, math.MinInt} {
		v := world{1: {typ, folder("a:2 .:1").bytes}, 2: folder("b:3"), 3: {typ, ""}}.view()
		is, isDir := 0, 0
		if typ != 0 {
			is = 1
		}
		if typ == api.TDir {
			isDir = 1
		}
		wantWalk(t, v, 2, "/", is)
		wantWalk(t, v, 2, "/a", 2*isDir)
		wantWalk(t, v, 2, "/./.", isDir)
		wantWalk(t, v, 2, "/a/b", 3*isDir)
		wantWalk(t, v, 2, "b", 3*is)
		wantWalk(t, v, 1, "a", 2*isDir)
		wantParent(t, v, 2, "/a/b", 2*isDir, []string{"", "b"}[isDir])
		wantParent(t, v, 2, "/x", isDir, []string{"", "x"}[isDir])
		wantParent(t, v, 2, "b", 2, "b")
		wantParent(t, v, 2, "b/x", 3*isDir, []string{"", "x"}[isDir])
	}
	wantWalk(t, store.Look(store.New()), 1, "/", 0)
	wantParent(t, store.Look(store.New()), 1, "/a", 0, "")
}

// All lengths up to the longest path, by names of each length, and one byte more.
func TestP12_1LongPaths(t *testing.T) {
	for n := 1; n <= maxName; n++ {
		s := "abcdefghijklmn"[:n]
		v := world{1: folder(s + ":1"), 15: folder(s + ":15")}.view()
		for _, cwd := range []int{1, 15} {
			for many := 1; many <= maxPath+1; many++ {
				for behind := range 2 {
					p := strings.Repeat(s+"/", many)[:many*(n+1)-1+behind]
					want, last := cwd, s
					if len(p) > maxPath {
						want, last = 0, ""
					}
					wantWalk(t, v, cwd, p, want)
					wantParent(t, v, cwd, p, want, last)
					if len(p) < maxPath {
						wantWalk(t, v, cwd, "/"+p, 1)
						wantParent(t, v, cwd, "/"+p, 1, s)
					} else {
						wantWalk(t, v, cwd, "/"+p, 0)
						wantParent(t, v, cwd, "/"+p, 0, "")
					}
				}
			}
		}
	}
}

// As many names as a path may have, each in another directory: a chain through all inodes, and round.
func TestP12_1EveryInode(t *testing.T) {
	w := world{}
	for i := 1; i < maxInodes; i++ {
		w[i] = folder("n:" + strconv.Itoa(i%15+1))
	}
	v := w.view()
	for i := 1; i < maxInodes; i++ {
		for many := 1; many <= 30; many++ {
			p := strings.Repeat("n/", many)
			wantWalk(t, v, i, p, (i-1+many)%15+1)
			wantWalk(t, v, i, p[:len(p)-1], (i-1+many)%15+1)
			wantWalk(t, v, i, "/"+p[:len(p)-1], many%15+1)
			wantParent(t, v, i, strings.Repeat("n/", many-1)+"x", (i-2+many)%15+1, "x")
		}
	}
}

// Each byte at each place of a name.
func TestP12_1EveryByte(t *testing.T) {
	s := world{2: folder("")}.store()
	for n := 1; n <= maxName; n++ {
		for at := range n {
			for x := 1; x < 256; x++ {
				if x == '/' {
					continue
				}
				ahead, behind := strings.Repeat("n", at), strings.Repeat("n", n-at-1)
				held := ahead + string([]byte{byte(x)}) + behind
				v := store.Look(s)
				v.Put(object(1), value(node{api.TDir, entry("other", 2) + entry(held, 3)}))
				v.Put(object(3), value(node{api.TDir, entry(held, 2)}))
				wantWalk(t, v, 1, held, 3)
				wantWalk(t, v, 2, "/"+held+"/"+held, 2)
				wantParent(t, v, 2, "/"+held+"/"+held, 3, held)
				wantParent(t, v, 2, held, 2, held)
				if near := x ^ 128; near != '/' {
					wantWalk(t, v, 1, ahead+string([]byte{byte(near)})+behind, 0)
				}
			}
		}
	}
}

// Directories of more bytes than a directory has, and of some that are no whole entry.
func TestP12_1BytesThatAreNoEntry(t *testing.T) {
	full := strings.Repeat(entry("y", 3), 7)
	for _, q := range []struct {
		bytes string
		want  int
	}{
		{"", 0}, {entry("x", 2), 2}, {entry("x", 2)[:15], 0}, {entry("x", 2) + "tail", 2}, {"tail" + entry("x", 2), 0}, {full + entry("x", 2), 2}, {full + entry("y", 3) + entry("x", 2), 0}, {full + entry("x", 2)[:15], 0}, {full + entry("x", 0) + entry("x", 2), 0},
	} {
		v := world{1: {api.TDir, q.bytes}, 2: folder("")}.view()
		wantWalk(t, v, 1, "x", q.want)
		wantWalk(t, v, 1, "/x", q.want)
		wantParent(t, v, 1, "/x/z", q.want, "z"[:q.want/2])
	}
}

// The view is what is walked: what was put through it is on the way at once, and in no other view.
func TestP12_1ThroughTheView(t *testing.T) {
	s := tree().store()
	v, other := store.Look(s), store.Look(s)
	v.Put(object(8), value(folder("new:9")))
	v.Put(object(9), value(node{api.TFile, ""}))
	wantWalk(t, v, 1, "/a/b/c/d/new", 9)
	wantWalk(t, other, 1, "/a/b/c/d/new", 0)
	v.Put(object(5), api.Value{})
	wantWalk(t, v, 1, "/a/b/c", 0)
	wantWalk(t, v, 5, "c", 0)
	wantParent(t, v, 1, "/a/b/c", 0, "")
	wantParent(t, v, 1, "/a/b", 2, "b")
	wantWalk(t, other, 1, "/a/b/c", 7)
	s.Put(object(5), value(folder("c:6")))
	wantWalk(t, other, 1, "/a/b/c", 6)
	wantWalk(t, v, 1, "/a/b/c", 0)
}

// Asked again, and behind other paths, all answers are the same.
func TestP12_1NothingIsKept(t *testing.T) {
	v, w := tree().view(), tree()
	paths := append(wrongPaths(), "/", "/a", "a", "b", "/a/b/c", "f/x", "..", "/gone", "/last/last/..")
	for range 2 {
		for _, p := range paths {
			for cwd := range maxInodes {
				wantAsTold(t, v, w, cwd, p)
			}
		}
		slices.Reverse(paths)
	}
}
