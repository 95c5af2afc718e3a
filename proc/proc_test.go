package proc_test

import (
	"math"
	"slices"
	"strings"
	"testing"

	"cloister/api"
	"cloister/key"
	"cloister/proc"
	"cloister/store"
)

// The limits and the states, by hand: the tests hold the package against these.
const (
	maxProcs = 8
	maxFd    = 6
	maxFiles = 12

	alive  = 1
	zombie = 2
)

var zero = api.Value{}

func table() api.Key { return api.Key{Kind: api.KProcs} }

func object(p int) api.Key { return api.Key{Kind: api.KProc, N: p} }

func memory(p int) api.Key { return api.Key{Kind: api.KMem, N: p} }

func keys(l ...api.Key) []api.Key { return l }

// objects are those of these processes.
func objects(l ...int) []api.Key {
	var to []api.Key
	for _, p := range l {
		to = append(to, object(p))
	}
	return to
}

// val is a process's value, without descriptors; parent is what it is told as, 0 for none.
func val(state, parent, pid int) api.Value { return api.Value{N: [16]int{state, parent, pid}} }

// tableVal is the table's value.
func tableVal(used, last int) api.Value { return api.Value{N: [16]int{used, last}} }

// bits are those of these processes.
func bits(l ...int) int {
	used := 0
	for _, p := range l {
		used |= 1 << p
	}
	return used
}

func put(k api.Key, x api.Value) api.Write { return api.Write{Key: k, Value: x} }

// with puts these into the store.
func with(s *store.Store, l ...api.Write) *store.Store {
	for _, w := range l {
		s.Put(w.Key, w.Value)
	}
	return s
}

// set puts what the object has into the store, but for one number.
func set(s *store.Store, k api.Key, at, n int) {
	x := s.Get(k)
	x.N[at] = n
	s.Put(k, x)
}

// all are the processes there may be.
func all() []int { return []int{0, 1, 2, 3, 4, 5, 6, 7} }

// others are all but one.
func others(p int) []int { return append(all()[:p], all()[p+1:]...) }

// far are numbers far from every process, file and place; some of them are near to one if bits of them are lost.
func far() []int {
	return []int{
		999, 256, 1 << 16, 1<<16 + 1, 1<<31 - 1, 1 << 31, 1 << 32, 1<<32 + 1, 1<<32 + 3, 1 << 62, 1<<62 + 1, math.MaxInt - 1, math.MaxInt,
		-999, -256, -1 << 16, -1<<16 + 1, -1 << 31, -1<<32 + 1, -1 << 32, -1 << 62, -1<<62 + 1, math.MinInt, math.MinInt + 1,
	}
}

// strangers are no processes, whatever the objects have. A bit shifted by 64 and more is none, or, shifted round, a
// process's.
func strangers() []int {
	return append([]int{8, 9, 10, 15, 16, 31, 32, 33, 62, 63, 64, 65, 71, 72, 128, -1, -2, -3, -7, -8, -9, -56, -57, -63, -64}, far()...)
}

// noFds are no descriptors; some are places of a process's numbers.
func noFds() []int {
	return append([]int{6, 7, 8, 13, 14, -1, -2, -6, -7, -8, -9}, far()...)
}

// oddTables are bits beyond the last process, and below nought; none of them is a process's.
func oddTables() []int {
	return []int{0, 1 << 8, 1 << 9, 1 << 16, 1 << 31, 1 << 32, 1 << 62, math.MinInt, -256, math.MinInt | 256, math.MaxInt &^ 255}
}

// odd are some of these; every are the bits of all processes.
const (
	odd   = 1<<62 | 1<<32 | 1<<8
	every = 255
)

// oddStates are none of the document's, and not 0.
func oddStates() []int { return []int{3, 4, -1, -2, 1 << 32, -1 << 32, math.MaxInt, math.MinInt} }

func row() []api.Key {
	var l []api.Key
	for place := range key.All() {
		k, _ := key.At(place)
		l = append(l, k)
	}
	return l
}

// full is a store in which every object has numbers at all places, and bytes, of its own; the table has these bits.
func full(used int) *store.Store {
	s := store.New()
	for place, k := range row() {
		x := api.Value{S: strings.Repeat(string(rune('a'+place)), 3+place%9)}
		for i := range x.N {
			x.N[i] = 100*place + i + 3
		}
		s.Put(k, x)
	}
	set(s, table(), 0, used)
	return s
}

// lay puts what was written through the view into the store.
func lay(s *store.Store, v *store.View) { with(s, v.Redo()...) }

func wantState(t *testing.T, v *store.View, p, want int) {
	t.Helper()
	if got := proc.State(v, p); got != want {
		t.Errorf("State(%d): %d, not %d", p, got, want)
	}
}

// wantNew wants -1 where none is to be had.
func wantNew(t *testing.T, v *store.View, parent, want int) {
	t.Helper()
	if p, ok := proc.New(v, parent); p != max(want, 0) || ok != (want >= 0) {
		t.Errorf("New(%d): %d, %v, not %d", parent, p, ok, want)
	}
}

func wantFree(t *testing.T, v *store.View, p int, want bool) {
	t.Helper()
	if got := proc.Free(v, p); got != want {
		t.Errorf("Free(%d): %v", p, got)
	}
}

func wantKids(t *testing.T, v *store.View, p int, want ...int) {
	t.Helper()
	if got := proc.Kids(v, p); !slices.Equal(got, want) {
		t.Errorf("Kids(%d): %v, not %v", p, got, want)
	}
}

// wantByPid wants -1 where there is none.
func wantByPid(t *testing.T, v *store.View, pid, want int) {
	t.Helper()
	if p, ok := proc.ByPid(v, pid); p != max(want, 0) || ok != (want >= 0) {
		t.Errorf("ByPid(%d): %d, %v, not %d", pid, p, ok, want)
	}
}

// wantFd wants -1 where the descriptor says none.
func wantFd(t *testing.T, v *store.View, p, fd, want int) {
	t.Helper()
	if f, ok := proc.Fd(v, p, fd); f != max(want, 0) || ok != (want >= 0) {
		t.Errorf("Fd(%d, %d): %d, %v, not %d", p, fd, f, ok, want)
	}
}

func wantSetFd(t *testing.T, v *store.View, p, fd, f int, want bool) {
	t.Helper()
	if got := proc.SetFd(v, p, fd, f); got != want {
		t.Errorf("SetFd(%d, %d, %d): %v", p, fd, f, got)
	}
}

// wantFreeFd wants -1 where there is none.
func wantFreeFd(t *testing.T, v *store.View, p, want int) {
	t.Helper()
	if fd, ok := proc.FreeFd(v, p); fd != max(want, 0) || ok != (want >= 0) {
		t.Errorf("FreeFd(%d): %d, %v, not %d", p, fd, ok, want)
	}
}

// wantNone wants that all calls tell that p is no process.
func wantNone(t *testing.T, v *store.View, p int) {
	t.Helper()
	wantState(t, v, p, 0)
	wantFree(t, v, p, false)
	wantFreeFd(t, v, p, -1)
	for fd := -2; fd < maxFd+2; fd++ {
		wantFd(t, v, p, fd, -1)
		wantSetFd(t, v, p, fd, fd, false)
		wantSetFd(t, v, p, fd, -1, false)
	}
}

// wantHas wants that the object, seen through the view, has x and nothing else.
func wantHas(t *testing.T, v *store.View, k api.Key, x api.Value) {
	t.Helper()
	if got := v.Get(k); got != x {
		t.Errorf("object %v has %v, not %v", k, got, x)
	}
}

// wantRedo wants that these objects were written, and no other.
func wantRedo(t *testing.T, v *store.View, redo ...api.Write) {
	t.Helper()
	if got := v.Redo(); !slices.Equal(got, redo) {
		t.Errorf("written %v, not %v", got, redo)
	}
}

func TestLimits(t *testing.T) {
	got := [...]int{api.MaxProcs, api.MaxFd, api.MaxFiles, api.PAlive, api.PZombie}
	if want := [...]int{maxProcs, maxFd, maxFiles, alive, zombie}; got != want {
		t.Error(got)
	}
}

// The chapter's runs.
func TestRuns(t *testing.T) {
	v := store.Look(store.New())
	wantNew(t, v, -1, 0)
	wantNew(t, v, 0, 1)
	wantHas(t, v, object(0), val(alive, 0, 1))
	wantHas(t, v, object(1), val(alive, 1, 2))
	wantKids(t, v, 0, 1)
	wantByPid(t, v, 2, 1)
	wantSetFd(t, v, 1, 0, 3, true)
	wantFreeFd(t, v, 1, 1)
	wantFree(t, v, 1, true)
	wantNew(t, v, 0, 1)
	wantHas(t, v, object(1), val(alive, 1, 3))
	wantHas(t, v, table(), tableVal(3, 3))
}

// Every table of the bits of all processes, with bits beyond them and below nought: a bit is of its process alone.
func TestP15_1EveryTable(t *testing.T) {
	s := full(0)
	for _, high := range oddTables() {
		for used := range 1 << maxProcs {
			set(s, table(), 0, high+used)
			v := store.Look(s)
			for _, p := range all() {
				if used>>p%2 == 1 {
					wantState(t, v, p, s.Get(object(p)).N[0])
				} else {
					wantNone(t, v, p)
				}
			}
			for _, p := range strangers() {
				wantNone(t, v, p)
			}
			wantRedo(t, v)
		}
	}
}

// What isn't among the bits is none, whatever its object has; what is has any state, as it stands, and is none with 0.
func TestP15_1TheTableFirst(t *testing.T) {
	for _, p := range all() {
		for _, state := range append([]int{alive, zombie, 0}, oddStates()...) {
			x := val(state, 1, 1)
			x.N[8] = 3
			s := with(store.New(), put(object(p), x))
			wantNone(t, store.Look(s), p)
			s.Put(table(), tableVal(bits(others(p)...), 9))
			wantNone(t, store.Look(s), p)
			s.Put(table(), tableVal(bits(p), 0))
			v := store.Look(s)
			if state == 0 {
				wantNone(t, v, p)
			}
			wantState(t, v, p, state)
			for _, other := range others(p) {
				wantNone(t, v, other)
			}
			wantRedo(t, v)
		}
	}
}

// The bits are the table's first number, the state a process's: no other number, no text, and no other object is asked.
func TestP15_1WhereTheyStand(t *testing.T) {
	s, x := store.New(), api.Value{S: "text"}
	for i := range x.N {
		x.N[i] = -1
	}
	for _, k := range row() {
		s.Put(k, x)
	}
	set(s, table(), 0, 0)
	for _, p := range all() {
		wantNone(t, store.Look(s), p)
	}
	set(s, table(), 0, every)
	for _, p := range all() {
		wantState(t, store.Look(s), p, -1)
		set(s, object(p), 0, 0)
		wantNone(t, store.Look(s), p)
	}
	s = with(store.New(), put(table(), tableVal(every, 0)))
	for _, p := range all() {
		s.Put(object(p), val(p+1, 0, 0))
		wantState(t, store.Look(s), p, p+1)
	}
}

func TestP15_2AllInTurn(t *testing.T) {
	v := store.Look(store.New())
	for _, p := range all() {
		wantNone(t, v, p)
		wantNew(t, v, p/2-1, p)
		wantHas(t, v, table(), tableVal(bits(all()[:p+1]...), p+1))
		for _, had := range all()[:p+1] {
			wantState(t, v, had, alive)
			wantHas(t, v, object(had), val(alive, had/2, had+1))
		}
	}
	for range 3 {
		wantNew(t, v, 0, -1)
		wantHas(t, v, table(), tableVal(every, 8))
	}
	for _, p := range all() {
		wantHas(t, v, object(p), val(alive, p/2, p+1))
	}
}

// Whatever the table has beside the bit and the last pid stays; whatever the object has goes. A bit is enough for one
// not to be had: its object may have no state.
func TestP15_2EveryTable(t *testing.T) {
	for _, s := range []*store.Store{full(0), with(store.New(), put(table(), tableVal(0, 77)))} {
		x := s.Get(table())
		for _, high := range oddTables() {
			for used := range 1 << maxProcs {
				want := 0
				for used>>want%2 == 1 {
					want++
				}
				x.N[0] = high + used
				s.Put(table(), x)
				v := store.Look(s)
				if want >= maxProcs {
					wantNew(t, v, 5, -1)
					wantRedo(t, v)
					continue
				}
				then := x
				then.N[0] += 1 << want
				then.N[1]++
				wantNew(t, v, 5, want)
				wantRedo(t, v, put(table(), then), put(object(want), val(alive, 6, then.N[1])))
			}
		}
	}
}

// A parent is kept as it is told, whether it is a process, or the new one itself, or none; it isn't touched.
func TestP15_2WhateverParent(t *testing.T) {
	for _, parent := range append([]int{-3, -2, -1, 0, 1, 2, 3, 4, 5, 6, 7, 8, 9, 64}, far()...) {
		told := parent
		told++
		v := store.Look(full(odd | every - 1<<3))
		then := full(odd | every).Get(table())
		then.N[1]++
		wantNew(t, v, parent, 3)
		wantRedo(t, v, put(table(), then), put(object(3), val(alive, told, then.N[1])))
		wantNew(t, v, parent, -1)
		wantRedo(t, v, put(table(), then), put(object(3), val(alive, told, then.N[1])))
		wantKids(t, v, parent, 3)
	}
}

// The pid is one more than the last, whichever that is; behind the greatest int numbers go round.
func TestP15_2WhateverLastPid(t *testing.T) {
	for _, last := range append([]int{-2, -1, 0, 1, 2, 7, 8, 9}, far()...) {
		pid := last
		v := store.Look(with(store.New(), put(table(), tableVal(0, last))))
		for _, p := range all() {
			pid++
			wantNew(t, v, -1, p)
			wantHas(t, v, object(p), val(alive, 0, pid))
			wantHas(t, v, table(), tableVal(bits(all()[:p+1]...), pid))
			wantByPid(t, v, pid, p)
		}
		wantNew(t, v, -1, -1)
		wantHas(t, v, table(), tableVal(every, pid))
	}
}

// The least that isn't used is had, one ahead of others too; it has nothing of what it was, and a pid of its own.
func TestP15_2HadAgain(t *testing.T) {
	for _, gone := range [][]int{{0}, {1}, {7}, {0, 1}, {6, 3}, {7, 0}, {5, 6, 4}, {6, 7, 0, 2}, {7, 6, 5, 4, 3, 2, 1, 0}} {
		v := store.Look(store.New())
		for _, p := range all() {
			wantNew(t, v, p-1, p)
			for fd := range maxFd {
				wantSetFd(t, v, p, fd, p, true)
			}
			v.Put(memory(p), api.Value{N: [16]int{p}, S: "bytes"})
		}
		for _, p := range gone {
			wantFree(t, v, p, true)
			wantNone(t, v, p)
			wantByPid(t, v, p+1, -1)
		}
		pid := 8
		for _, p := range all() {
			if !slices.Contains(gone, p) {
				wantByPid(t, v, p+1, p)
				wantFreeFd(t, v, p, -1)
				wantHas(t, v, memory(p), api.Value{N: [16]int{p}, S: "bytes"})
				continue
			}
			pid++
			wantNew(t, v, 9, p)
			wantHas(t, v, object(p), val(alive, 10, pid))
			wantHas(t, v, memory(p), zero)
			wantByPid(t, v, p+1, -1)
			wantByPid(t, v, pid, p)
			wantFreeFd(t, v, p, 0)
		}
		wantNew(t, v, 0, -1)
		wantKids(t, v, 9, slices.Sorted(slices.Values(gone))...)
	}
}

// New leaves the memory as it is: it is Free that empties it.
func TestP15_2TheMemoryStays(t *testing.T) {
	for _, p := range all() {
		s := full(every - 1<<p)
		v := store.Look(s)
		wantNew(t, v, 0, p)
		for _, k := range row() {
			if k != table() && k != object(p) {
				wantHas(t, v, k, s.Get(k))
			}
		}
	}
}

// Of each process of a store where all objects have something: it goes with its memory, and nothing else does.
func TestP15_3Free(t *testing.T) {
	for _, p := range all() {
		for _, used := range append(oddTables(), every, odd|every, -1, math.MaxInt) {
			for _, state := range append([]int{alive, zombie}, oddStates()...) {
				s := full(used | 1<<p)
				set(s, object(p), 0, state)
				then := s.Get(table())
				then.N[0] -= 1 << p
				v := store.Look(s)
				wantFree(t, v, p, true)
				wantRedo(t, v, put(table(), then), put(object(p), zero), put(memory(p), zero))
				wantNone(t, v, p)
				wantRedo(t, v, put(table(), then), put(object(p), zero), put(memory(p), zero))
			}
			s := full(used | 1<<p)
			set(s, object(p), 0, 0)
			v := store.Look(s)
			wantFree(t, v, p, false)
			wantRedo(t, v)
		}
	}
}

// Who goes in which order is all the same; the last pid stays.
func TestP15_3AllGo(t *testing.T) {
	for start := range maxProcs {
		for step := 1; step < maxProcs; step += 2 {
			v := store.Look(store.New())
			for _, p := range all() {
				wantNew(t, v, p-1, p)
			}
			left := every
			for i := range maxProcs {
				p := (start + i*step) % maxProcs
				wantFree(t, v, p, true)
				wantFree(t, v, p, false)
				left -= 1 << p
				wantHas(t, v, table(), tableVal(left, 8))
			}
			for _, p := range all() {
				wantNone(t, v, p)
				wantHas(t, v, object(p), zero)
			}
			wantNew(t, v, -1, 0)
			wantHas(t, v, object(0), val(alive, 0, 9))
		}
	}
}
