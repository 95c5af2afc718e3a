package inode_test

import (
	"math"
	"testing"

	"cloister/api"
	"cloister/inode"
	"cloister/store"
)

func TestP10_3LinkedAndLetGo(t *testing.T) {
	v := store.Look(store.New())
	wantAlloc(t, v, api.TFile, 1, true)
	wantAlloc(t, v, api.TDir, 2, true)
	wantWrite(t, v, 2, 0, "xyz", 3)
	for _, q := range []struct{ links, holders, sumLinks, sumHolders int }{
		{1, 0, 1, 0}, {0, 1, 1, 1}, {2, 3, 3, 4}, {-1, 0, 2, 4}, {0, -1, 2, 3}, {0, 0, 2, 3}, {-2, 0, 0, 3}, {1, -3, 1, 0}, {-1, 1, 0, 1}, {0, 0, 0, 1},
	} {
		wantChange(t, v, 2, q.links, q.holders, true)
		wantHas(t, v, object(2), val(api.TDir, q.sumLinks, q.sumHolders, "xyz"))
		wantHas(t, v, table(), bits(1, 2))
		wantIs(t, v, 2, api.TDir, q.sumLinks, 3)
	}
	wantChange(t, v, 2, 0, -1, true)
	wantHas(t, v, object(2), zero)
	wantHas(t, v, table(), bits(1))
	wantNone(t, v, 2)
	wantIs(t, v, 1, api.TFile, 0, 0)
}

// goes tells whether an inode of these goes, asked one by one.
func goes(links, holders int) bool {
	if links > 0 {
		return false
	}
	return holders <= 0
}

// wantSum changes inode i of a store where all objects have something, and wants what comes of it.
func wantSum(t *testing.T, i int, x api.Value, links, holders int) {
	t.Helper()
	s := full()
	s.Put(table(), bits(all()...))
	s.Put(object(i), x)
	v := store.Look(s)
	wantChange(t, v, i, links, holders, true)
	want := x
	want.N[1], want.N[2] = x.N[1]+links, x.N[2]+holders
	used := bits(all()...)
	if goes(want.N[1], want.N[2]) {
		want, used = zero, bits(but(i)...)
	}
	wantHas(t, v, object(i), want)
	wantHas(t, v, table(), used)
	if inode.Is(v, i) == (want == zero) {
		t.Errorf("inode %d of %v, changed by %d, %d: %v", i, x.N, links, holders, inode.Is(v, i))
	}
}

// Counts about 0, and changes about them: to above 0, to 0, to below 0, one of them alone and both.
func TestP10_3AboutZero(t *testing.T) {
	for links := -3; links <= 3; links++ {
		for holders := -3; holders <= 3; holders++ {
			for more := -4; more <= 4; more++ {
				for held := -4; held <= 4; held++ {
					wantSum(t, 7, val(api.TFile, links, holders, "abc"), more, held)
				}
			}
		}
	}
}

func TestP10_3EveryInodeGoes(t *testing.T) {
	for _, i := range all() {
		x := full().Get(object(i))
		wantSum(t, i, x, 1, 1)
		wantSum(t, i, x, 0, 0)
		wantSum(t, i, x, -x.N[1], 0)
		wantSum(t, i, x, 0, -x.N[2])
		wantSum(t, i, x, 1-x.N[1], -x.N[2])
		wantSum(t, i, x, -x.N[1], 1-x.N[2])
		wantSum(t, i, x, -x.N[1], -x.N[2])
		wantSum(t, i, x, -x.N[1]-1, -x.N[2]-1)
		wantSum(t, i, x, math.MinInt, math.MinInt)
		wantSum(t, i, val(api.TDevice, 0, 0, ""), 0, 0)
	}
}

// Counts and changes of any size; a sum beyond what an int holds goes round, as ints do.
func TestP10_3AnyCounts(t *testing.T) {
	some := []int{0, 1, -1, 2, 1 << 31, -1 << 31, 1 << 32, 1 << 62, -1 << 62, math.MaxInt, math.MaxInt - 1, math.MinInt, math.MinInt + 1}
	for _, links := range some {
		for _, holders := range some {
			for _, more := range some {
				for _, held := range some {
					wantSum(t, 4, val(-5, links, holders, "z"), more, held)
				}
			}
		}
	}
}

// The bit is cleared if it was set, and all else of the table stays, whatever the table has.
func TestP10_3TheTableAtTheEnd(t *testing.T) {
	for _, i := range all() {
		for _, n := range append([]int{0, 1, 1 << i, 1<<i | 1, -1, 1 << 16, -1 << 16, 1<<16 - 1, -1 << i}, far()...) {
			s := full()
			used := s.Get(table())
			used.N[0] = n
			s.Put(table(), used)
			v := store.Look(s)
			wantChange(t, v, i, math.MinInt/2, math.MinInt/2, true)
			if n>>i&1 == 1 {
				used.N[0] = n - 1<<i
			}
			wantHas(t, v, table(), used)
			wantHas(t, v, object(i), zero)
		}
	}
}

func TestP10_3Refused(t *testing.T) {
	s := full()
	v := store.Look(s)
	for _, i := range strangers() {
		for _, q := range [][2]int{{0, 0}, {1, 1}, {-1, -1}, {math.MinInt, math.MinInt}, {math.MaxInt, math.MaxInt}} {
			wantChange(t, v, i, q[0], q[1], false)
		}
	}
	if len(v.Foot()) != 0 {
		t.Errorf("strangers: %v", v.Foot())
	}
	for _, i := range all() {
		x := s.Get(object(i))
		x.N[0] = 0
		s.Put(object(i), x)
		wantChange(t, v, i, -9999, -9999, false)
		wantChange(t, v, i, 1, 1, false)
		wantHas(t, v, object(i), x)
	}
	wantHas(t, v, table(), full().Get(table()))
	if len(v.Redo()) != 0 {
		t.Errorf("none that is: %v", v.Redo())
	}
}

func TestP10_3GoneAndHadAgain(t *testing.T) {
	v := store.Look(store.New())
	for range 40 {
		wantAlloc(t, v, api.TFile, 1, true)
		wantChange(t, v, 1, 2, 1, true)
		wantWrite(t, v, 1, 0, "abc", 3)
		wantChange(t, v, 1, -2, 0, true)
		wantRead(t, v, 1, 0, 9, "abc")
		wantChange(t, v, 1, 0, -1, true)
		wantNone(t, v, 1)
		wantChange(t, v, 1, 0, 0, false)
		wantHas(t, v, table(), zero)
		wantHas(t, v, object(1), zero)
	}
}
