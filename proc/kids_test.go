package proc_test

import (
	"math"
	"testing"

	"cloister/api"
	"cloister/proc"
	"cloister/store"
)

// family is a store with processes of these parents, as they are told, and these pids; where the state is 0 the bit
// is set all the same.
func family(states, parents, pids []int) *store.Store {
	s := store.New()
	for p := range states {
		s.Put(object(p), val(states[p], parents[p], pids[p]))
	}
	s.Put(table(), tableVal(1<<len(states)-1, 99))
	return s
}

func TestP15_4WhoseKids(t *testing.T) {
	v := store.Look(store.New())
	for _, parent := range []int{-1, 0, 0, 1, 2, 2, 0, 6} {
		proc.New(v, parent)
	}
	wantAll := func(l [][]int) {
		t.Helper()
		for p, want := range l {
			wantKids(t, v, p, want...)
		}
	}
	wantAll([][]int{{1, 2, 6}, {3}, {4, 5}, {}, {}, {}, {7}, {}, {}})
	wantKids(t, v, -1, 0)
	wantFree(t, v, 2, true)
	wantAll([][]int{{1, 6}, {3}, {4, 5}, {}, {}, {}, {7}, {}, {}}) // 2 is no more, and is still whose parent it was
	wantNew(t, v, 7, 2)
	wantAll([][]int{{1, 6}, {3}, {4, 5}, {}, {}, {}, {7}, {2}, {}})
	wantFree(t, v, 4, true)
	wantFree(t, v, 0, true)
	wantAll([][]int{{1, 6}, {3}, {5}, {}, {}, {}, {7}, {2}, {}})
	wantKids(t, v, -1)
}

// A process that is its own parent is its own kid.
func TestP15_4ItsOwnParent(t *testing.T) {
	for _, p := range all() {
		v := store.Look(with(store.New(), put(table(), tableVal(every-1<<p, 0))))
		wantNew(t, v, p, p)
		wantKids(t, v, p, p)
		for _, other := range others(p) {
			wantKids(t, v, other)
		}
	}
}

// All the sets of kids that there may be, among zombies and odd states; what has state 0, or no bit, is nobody's.
func TestP15_4EverySet(t *testing.T) {
	states := []int{alive, zombie, 3, -1, math.MinInt, math.MaxInt, 1 << 32, alive}
	for p := range maxProcs {
		for set := range 1 << maxProcs {
			parents, pids := make([]int, maxProcs), make([]int, maxProcs)
			var kids, rest, left []int
			for k := range maxProcs {
				if set>>k%2 == 1 {
					parents[k] = p + 1
					kids = append(kids, k)
				} else {
					parents[k] = p + 20
					rest = append(rest, k)
				}
				if k != p && set>>k%2 == 1 {
					left = append(left, k)
				}
			}
			s := family(states, parents, pids)
			wantKids(t, store.Look(s), p, kids...)
			wantKids(t, store.Look(s), p+19, rest...)
			s.Put(object(p), val(0, p+1, 0))
			wantKids(t, store.Look(s), p, left...)
			s.Put(object(p), val(alive, p+1, 0))
			s.Put(table(), tableVal(every-1<<p, 0))
			wantKids(t, store.Look(s), p, left...)
		}
	}
}

// Whoever is asked for: a process, or none, or none that there may be.
func TestP15_4KidsOfWhoever(t *testing.T) {
	some := append([]int{-9, -2, -1, 0, 1, 7, 8, 9}, far()...)
	for _, p := range some {
		told := p
		told++
		for k := range maxProcs {
			s := full(odd | every)
			wantKids(t, store.Look(s), p)
			set(s, object(k), 1, told)
			wantKids(t, store.Look(s), p, k)
			for _, other := range some {
				if other != p {
					wantKids(t, store.Look(s), other)
				}
			}
		}
	}
}

// The parent is asked for alone: no pid, state, descriptor or other number that is the same counts.
func TestP15_4TheParentAlone(t *testing.T) {
	s := store.New()
	for k := range maxProcs {
		x := api.Value{S: "\x05"}
		for i := range x.N {
			x.N[i] = 5
		}
		x.N[1] = 6
		s.Put(object(k), x)
	}
	s.Put(table(), tableVal(every, 5))
	v := store.Look(s)
	wantKids(t, v, 4)
	wantKids(t, v, 5, all()...)
	wantKids(t, v, 6)
}

// Kids' answer is memory of its own: whoever writes into it, or into its spare room, touches nothing.
func TestP15_4KidsAreNewMemory(t *testing.T) {
	v := store.Look(store.New())
	for range maxProcs {
		proc.New(v, 3)
	}
	a, b := proc.Kids(v, 3), proc.Kids(v, 3)
	for i := range a {
		a[i] = 99
	}
	for i := range a[:cap(a)] {
		a[:cap(a)][i] = 98
	}
	wantKids(t, v, 3, all()...)
	for i, k := range b {
		if k != i {
			t.Error(b)
		}
	}
	wantRedoIsWhole(t, v)
}

// wantRedoIsWhole wants eight processes of parent 3, and nothing else.
func wantRedoIsWhole(t *testing.T, v *store.View) {
	t.Helper()
	redo := []api.Write{put(table(), tableVal(every, 8))}
	for _, p := range all() {
		redo = append(redo, put(object(p), val(alive, 4, p+1)))
	}
	wantRedo(t, v, redo...)
}

func TestP15_4ByWhichPid(t *testing.T) {
	v := store.Look(store.New())
	for _, p := range all() {
		wantByPid(t, v, p+1, -1)
		wantNew(t, v, 0, p)
		wantByPid(t, v, p+1, p)
	}
	for _, pid := range append([]int{0, -1, 9, 10}, far()...) {
		wantByPid(t, v, pid, -1)
	}
	wantFree(t, v, 3, true)
	wantByPid(t, v, 4, -1)
	wantNew(t, v, 0, 3)
	wantByPid(t, v, 4, -1)
	wantByPid(t, v, 9, 3)
	for _, p := range others(3) {
		wantByPid(t, v, p+1, p)
	}
}

// Of all sets of processes that have the same pid, whichever it is, the least is told; none that has state 0, or no
// bit, has one.
func TestP15_4TheLeastOfAPid(t *testing.T) {
	states := []int{alive, zombie, 3, -1, math.MinInt, math.MaxInt, 1 << 32, alive}
	for _, pid := range append([]int{-1, 0, 1, 2, 8, 9}, far()...) {
		for has := range 1 << maxProcs {
			pids := make([]int, maxProcs)
			least, next := -1, -1
			for k := range maxProcs {
				pids[k] = pid
				if has>>k%2 == 0 {
					pids[k] ^= 4
				} else if least < 0 {
					least = k
				} else if next < 0 {
					next = k
				}
			}
			s := family(states, make([]int, maxProcs), pids)
			wantByPid(t, store.Look(s), pid, least)
			if least < 0 {
				continue
			}
			set(s, object(least), 0, 0)
			wantByPid(t, store.Look(s), pid, next)
			set(s, object(least), 0, alive)
			set(s, table(), 0, every-1<<least)
			wantByPid(t, store.Look(s), pid, next)
		}
	}
}

// The pid is asked for alone: no parent, state, descriptor or other number that is the same counts.
func TestP15_4ThePidAlone(t *testing.T) {
	s := store.New()
	for k := range maxProcs {
		x := api.Value{S: "\x05"}
		for i := range x.N {
			x.N[i] = 5
		}
		x.N[2] = 6
		s.Put(object(k), x)
	}
	s.Put(table(), tableVal(every, 5))
	v := store.Look(s)
	wantByPid(t, v, 5, -1)
	wantByPid(t, v, 6, 0)
}
