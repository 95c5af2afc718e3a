package path_test

import (
	"math"
	"strconv"
	"testing"

	"cloister/api"
)

func TestP12_2Parent(t *testing.T) {
	v := tree().view()
	for _, q := range []struct {
		cwd  int
		p    string
		want int
		last string
	}{
		{1, "/a", 1, "a"}, {5, "/new", 1, "new"}, {1, "x", 1, "x"}, {5, "x", 5, "x"}, {8, "x", 8, "x"}, {1, "/a/b", 2, "b"}, {1, "/a/c", 2, "c"}, {2, "b/c", 5, "c"}, {1, "/a/b/c/d/e", 8, "e"}, {15, "last/last", 15, "last"},
		{1, "/a/b/", 2, "b"}, {1, "//a//b//", 2, "b"}, {1, "a//", 1, "a"}, {1, "/f", 1, "f"}, {2, "f", 2, "f"}, {1, "/f/", 1, "f"}, {1, "/gone", 1, "gone"}, {7, "gone", 7, "gone"}, {1, "/no", 1, "no"}, {1, "/dev", 1, "dev"},
		{1, ".", 1, "."}, {1, "..", 1, ".."}, {1, "/.", 1, "."}, {2, "..", 2, ".."}, {5, "..", 5, ".."}, {2, "../a", 1, "a"}, {2, "./.", 2, "."}, {2, "../..", 1, ".."}, {7, "../x", 5, "x"}, {7, "../..", 5, ".."},
		{1, "/a/fourteen.bytes", 2, "fourteen.bytes"}, {1, "/a/b/fourteen.bytes/x", 8, "x"}, {1, "/a/\xff\xfe", 2, "\xff\xfe"}, {1, "/a/ ", 2, " "},
		{1, "/", 0, ""}, {1, "//", 0, ""}, {5, "///", 0, ""}, {1, "/f/x", 0, ""}, {1, "f/x", 0, ""}, {1, "/dev/x", 0, ""}, {1, "/a/f/x", 0, ""}, {1, "/a/f/x/y", 0, ""}, {1, "/x/y", 0, ""}, {1, "x/y", 0, ""}, {2, "b/x/y", 0, ""},
		{1, "/gone/x", 0, ""}, {7, "gone/x", 0, ""}, {1, "/no/x", 0, ""}, {5, "../x", 0, ""}, {5, "./x", 0, ""}, {3, "x", 0, ""}, {4, "x", 0, ""}, {6, "x", 0, ""}, {9, "x", 0, ""}, {10, "x", 0, ""}, {1, "/f/.", 0, ""}, {1, "/f/..", 0, ""},
	} {
		wantParent(t, v, q.cwd, q.p, q.want, q.last)
	}
}

// What the last name leads to is of no matter: an inode of any type, or none.
func TestP12_2LastNameIsNotAsked(t *testing.T) {
	for n := range 18 {
		for _, typ := range []int{0, api.TDir, api.TFile, api.TDevice, -1, math.MaxInt} {
			w := world{n % maxInodes: {typ, entry("x", 3)}}
			w[1], w[2] = folder("d:2 x:"+strconv.Itoa(n)), folder("x:"+strconv.Itoa(n))
			v := w.view()
			wantParent(t, v, 2, "/x", 1, "x")
			wantParent(t, v, 1, "/d/x", 2, "x")
			wantParent(t, v, 2, "x", 2, "x")
		}
	}
}

// Types are directories or aren't: what is none is at a path's end alone.
func TestP12_2AnyType(t *testing.T) {
	for _, typ := range append(far(), 2, 3, 4, -1) {
		v := world{1: folder("f:2"), 2: {typ, entry("a", 1) + entry(".", 2)}}.view()
		wantWalk(t, v, 1, "/f", 2)
		wantWalk(t, v, 1, "/f/a", 0)
		wantWalk(t, v, 1, "/f/.", 0)
		wantWalk(t, v, 2, "a", 0)
		wantParent(t, v, 1, "/f", 1, "f")
		wantParent(t, v, 1, "/f/a", 0, "")
		wantParent(t, v, 2, "a", 0, "")
		wantParent(t, v, 1, "/f/a/b", 0, "")
	}
}

// Directories that have themselves and each other: a way ends where its path ends.
func TestP12_2RoundAndRound(t *testing.T) {
	w := world{1: folder("me:1 you:2"), 2: folder("me:2 you:1")}
	v := w.view()
	for many := range 20 {
		for code := range 1 << min(many, 10) {
			at, p := 1, "/"
			for i := range many {
				if len(p)+len("you/x") > maxPath {
					break
				}
				if code>>(i%10)&1 == 0 {
					p += "me/"
				} else {
					p, at = p+"you/", 3-at
				}
			}
			wantWalk(t, v, 0, p, at)
			wantParent(t, v, 0, p+"x", at, "x")
		}
	}
}
