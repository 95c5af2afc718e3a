package path_test

import (
	"math"
	"slices"
	"strings"
	"testing"

	"cloister/api"
	"cloister/key"
	"cloister/path"
	"cloister/store"
)

// wantNoted wants these objects read, and nothing else touched.
func wantNoted(t *testing.T, v *store.View, reads []api.Key) {
	t.Helper()
	if got := v.Reads(); !slices.Equal(got, reads) {
		t.Errorf("read %v, not %v", got, reads)
	}
	if got := v.Foot(); !slices.Equal(got, reads) {
		t.Errorf("touched %v, not %v", got, reads)
	}
	if got := v.Redo(); len(got) != 0 {
		t.Errorf("written %v", got)
	}
}

// wantFoot does both calls, each through a new view of s, and wants what they read told by hand, and s as it was.
func wantFoot(t *testing.T, s *store.Store, cwd int, p string, walk, parent []api.Key) {
	t.Helper()
	was := s.Twin()
	v := store.Look(s)
	path.Walk(v, cwd, p)
	wantNoted(t, v, walk)
	v = store.Look(s)
	path.Parent(v, cwd, p)
	wantNoted(t, v, parent)
	for place := range key.All() {
		if k, _ := key.At(place); s.Get(k) != was.Get(k) {
			t.Errorf("the store's %v has changed", k)
		}
	}
	if t.Failed() {
		t.Fatalf("path %q from %d", p, cwd)
	}
}

func TestP12_3TheWayAlone(t *testing.T) {
	s := tree().store()
	for _, q := range []struct {
		cwd          int
		p            string
		walk, parent []api.Key
	}{
		{1, "/", objects(1), nil}, {5, "///", objects(1), nil}, {9, "/", objects(1), nil}, {5, "/a", objects(1, 2), objects(1)}, {8, "/a/b", objects(1, 2, 5), objects(1, 2)}, {2, "b", objects(2, 5), objects(2)}, {1, "a/b/c/d", objects(1, 2, 5, 7, 8), objects(1, 2, 5, 7)},
		{15, "last", objects(15), objects(15)}, {1, "last/last", objects(1, 15), objects(1, 15)}, {7, "../c/d", objects(5, 7, 8), objects(5, 7)}, {2, ".", objects(2), objects(2)}, {2, "..", objects(1, 2), objects(2)}, {1, "..", objects(1), objects(1)}, {15, "../a", objects(1, 2, 15), objects(1, 15)},
		{1, "/f", objects(1, 3), objects(1)}, {1, "/f/", objects(1, 3), objects(1)}, {2, "f", objects(2, 6), objects(2)}, {1, "/dev", objects(1, 4), objects(1)},
	} {
		wantFoot(t, s, q.cwd, q.p, q.walk, q.parent)
	}
}

// A call that fails has read as far as it came.
func TestP12_3CallsThatFail(t *testing.T) {
	s := tree().store()
	for _, q := range []struct {
		cwd          int
		p            string
		walk, parent []api.Key
	}{
		{1, "/x", objects(1), objects(1)}, {1, "/x/b", objects(1), objects(1)}, {1, "/a/x/c/d", objects(1, 2), objects(1, 2)}, {5, "..", objects(5), objects(5)}, {1, "/a/b/./c", objects(1, 2, 5), objects(1, 2, 5)},
		{1, "/f/x", objects(1, 3), objects(1, 3)}, {1, "/f/a", objects(1, 3), objects(1, 3)}, {1, "/f/a/b", objects(1, 3), objects(1, 3)}, {1, "/dev/a", objects(1, 4), objects(1, 4)}, {3, "a", objects(3), objects(3)}, {4, "a/b", objects(4), objects(4)}, {1, "/a/f/x", objects(1, 2, 6), objects(1, 2, 6)},
		{1, "/gone", objects(1, 9), objects(1)}, {1, "/gone/a", objects(1, 9), objects(1, 9)}, {1, "/gone/a/b", objects(1, 9), objects(1, 9)}, {1, "/no", objects(1), objects(1)}, {1, "/no/a", objects(1), objects(1)}, {7, "gone", objects(7, 10), objects(7)}, {7, "gone/a", objects(7, 10), objects(7, 10)},
		{9, "a", objects(9), objects(9)}, {10, "a/b", objects(10), objects(10)}, {14, ".", objects(14), objects(14)},
	} {
		wantFoot(t, s, q.cwd, q.p, q.walk, q.parent)
	}
}

// What is no path, and a beginning that can be no inode, is refused unread.
func TestP12_3NothingIsRead(t *testing.T) {
	s := tree().store()
	for _, p := range wrongPaths() {
		for _, cwd := range append(strangers(), 1, 2, 3, 9, 15) {
			wantFoot(t, s, cwd, p, nil, nil)
		}
	}
	for _, cwd := range strangers() {
		for _, p := range []string{"a", ".", "a/b", "x/", strings.Repeat("a/", 30)} {
			wantFoot(t, s, cwd, p, nil, nil)
		}
	}
}

// A path that begins at Root has nothing to do with cwd, whatever that is.
func TestP12_3CwdIsNotRead(t *testing.T) {
	s := tree().store()
	for cwd := 2; cwd < maxInodes; cwd++ {
		wantFoot(t, s, cwd, "/", objects(1), nil)
		wantFoot(t, s, cwd, "/x/y", objects(1), objects(1))
	}
	for _, typ := range []int{0, api.TFile, -1, math.MaxInt} {
		w := world{1: {typ, folder("a:2").bytes}, 2: folder("a:1")}
		wantFoot(t, w.store(), 2, "/", objects(1), nil)
		wantFoot(t, w.store(), 2, "/a/b", objects(1), objects(1))
		wantFoot(t, w.store(), 2, "a", objects(1, 2), objects(2))
	}
}

// What was read or written through the view before stays so, and is not written anew.
func TestP12_3BehindOtherCalls(t *testing.T) {
	s := tree().store()
	v := store.Look(s)
	v.Put(object(8), value(folder("new:9")))
	v.Get(object(12))
	wantWalk(t, v, 5, "c", 7)
	wantWalk(t, v, 7, "d/new", 0)
	if got := v.Reads(); !slices.Equal(got, objects(5, 7, 8, 9, 12)) {
		t.Errorf("read %v", got)
	}
	if got := v.Redo(); !slices.Equal(got, []api.Write{{Key: object(8), Value: value(folder("new:9"))}}) {
		t.Errorf("written %v", got)
	}
}
