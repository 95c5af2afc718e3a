package store_test

import (
	"slices"
	"testing"

	"cloister/api"
	"cloister/store"
)

// stage is what stores and views must be, told in another way: by lists of all that was done to each.
type stage struct {
	stores [2]*store.Store
	views  [2]*store.View
	puts   [2][]api.Write // into each store
	got    [2][]api.Key   // through each view
	laid   [2][]api.Write // through each view
}

// newStage has a store and its twin; both views are of the store.
func newStage() *stage {
	s := store.New()
	return &stage{stores: [2]*store.Store{s, s.Twin()}, views: [2]*store.View{store.Look(s), store.Look(s)}}
}

func there(x api.Key) bool { return slices.Contains(row(), x) }

// latest is the last value of the list for x, and whether there is one.
func latest(l []api.Write, x api.Key) (api.Value, bool) {
	for i := len(l) - 1; i >= 0; i-- {
		if l[i].Key == x {
			return l[i].Value, true
		}
	}
	return zero, false
}

// putStore does a Put into a store.
func (g *stage) putStore(t *testing.T, i int, x api.Key, v api.Value) {
	t.Helper()
	if got := g.stores[i].Put(x, v); got != there(x) {
		t.Fatalf("Put(%v) into store %d: %v", x, i, got)
	}
	if there(x) {
		g.puts[i] = append(g.puts[i], write(x, v))
	}
}

// putView does a Put through a view.
func (g *stage) putView(i int, x api.Key, v api.Value) {
	g.views[i].Put(x, v)
	if there(x) {
		g.laid[i] = append(g.laid[i], write(x, v))
	}
}

// getView does a Get through a view.
func (g *stage) getView(t *testing.T, i int, x api.Key) {
	t.Helper()
	want, own := latest(g.laid[i], x)
	if !own {
		want, _ = latest(g.puts[0], x)
	}
	if got := g.views[i].Get(x); got != want {
		t.Fatalf("Get(%v) of view %d: %v, not %v", x, i, got, want)
	}
	if there(x) {
		g.got[i] = append(g.got[i], x)
	}
}

// check holds all that can be asked without a read against the lists.
func (g *stage) check(t *testing.T, of []api.Key) {
	t.Helper()
	for i := range 2 {
		for _, x := range of {
			if want, _ := latest(g.puts[i], x); g.stores[i].Get(x) != want {
				t.Fatalf("store %d has %v for %v, not %v", i, g.stores[i].Get(x), x, want)
			}
		}
		var reads, foot []api.Key
		var redo []api.Write
		for _, x := range row() {
			read := slices.Contains(g.got[i], x)
			if read {
				reads = append(reads, x)
			}
			last, written := latest(g.laid[i], x)
			if written {
				redo = append(redo, write(x, last))
			}
			if read || written {
				foot = append(foot, x)
			}
		}
		wantView(t, g.views[i], reads, foot, redo)
	}
}

const kindsOfCalls = 8

// call does one call: which one, of which of the keys, all told by one number below kindsOfCalls * len(of).
func (g *stage) call(t *testing.T, of []api.Key, c int) {
	t.Helper()
	x := of[c/kindsOfCalls]
	switch c % kindsOfCalls {
	case 0:
		g.putStore(t, 0, x, val(1))
	case 1:
		g.putStore(t, 0, x, zero)
	case 2:
		g.putStore(t, 1, x, val(2))
	case 3:
		g.getView(t, 0, x)
	case 4:
		g.putView(0, x, val(3))
	case 5:
		g.putView(0, x, zero)
	case 6:
		g.getView(t, 1, x)
	case 7:
		g.putView(1, x, val(1))
	}
}

// allCalls does all rows of n calls with these keys, and holds everything against the lists behind each call.
func allCalls(t *testing.T, of []api.Key, n int) {
	t.Helper()
	base := kindsOfCalls * len(of)
	total := 1
	for range n {
		total *= base
	}
	for code := range total {
		g := newStage()
		for rest := code + total; rest >= base; rest /= base {
			g.call(t, of, rest%base)
		}
		g.check(t, of)
	}
}

// Rows that are shorter are beginnings of these: they are done by themselves, so that each call is looked behind.
func TestAllShortRowsOfCalls(t *testing.T) {
	for n := range 5 {
		allCalls(t, keys(k(api.KProc, 1)), n)
	}
	for n := range 4 {
		allCalls(t, keys(first(), last()), n)
	}
	for n := range 3 {
		allCalls(t, keys(k(api.KProc, 1), k(api.KProc, 8), k(api.KMem, 1), k(0, 0)), n)
	}
}

// Long rows of calls with all objects and some strangers: which, is told by a sum that goes round.
func TestLongRowsOfCalls(t *testing.T) {
	of := append(row(), strangers()[:20]...)
	for start := range 8 {
		g := newStage()
		n := uint32(start)
		for i := range 600 {
			n = n*1664525 + 1013904223
			g.call(t, of, int(n>>8)%(kindsOfCalls*len(of)))
			if i%10 == 0 {
				g.check(t, of)
			}
		}
		g.check(t, of)
	}
}
