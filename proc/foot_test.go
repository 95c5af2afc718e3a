package proc_test

import (
	"math"
	"slices"
	"testing"

	"cloister/api"
	"cloister/proc"
	"cloister/store"
)

// deed does one call, or some.
type deed func(v *store.View)

// wantFoot does the deed through a new view of s, and wants what was read, what was written with its values, and that
// s is as it was.
func wantFoot(t *testing.T, what string, s *store.Store, d deed, read []api.Key, redo ...api.Write) {
	t.Helper()
	was, v := s.Twin(), store.Look(s)
	d(v)
	if got := v.Reads(); !slices.Equal(got, read) {
		t.Errorf("%s: read %v, not %v", what, got, read)
	}
	if got := v.Redo(); !slices.Equal(got, redo) {
		t.Errorf("%s: written %v, not %v", what, got, redo)
	}
	for _, k := range row() {
		if s.Get(k) != was.Get(k) {
			t.Errorf("%s: the store's %v has changed", what, k)
		}
	}
}

// asks are calls of all kinds that ask for p's state first.
func asks(p int) []deed {
	var l []deed
	for _, fd := range []int{0, 5, -1, 6, 99, math.MinInt} {
		l = append(l, func(v *store.View) { proc.Fd(v, p, fd) })
		for _, f := range []int{0, 11, 12, -1, math.MaxInt} {
			l = append(l, func(v *store.View) { proc.SetFd(v, p, fd, f) })
		}
	}
	return append(l, func(v *store.View) { proc.State(v, p) }, func(v *store.View) { proc.Free(v, p) }, func(v *store.View) { proc.FreeFd(v, p) })
}

func TestP15_1WhatIsNoneReadsNoMoreThanItsState(t *testing.T) {
	for _, used := range []int{0, every, -1, odd} {
		for _, p := range strangers() {
			for _, d := range asks(p) {
				wantFoot(t, "a stranger", full(used), d, nil)
			}
		}
	}
	for _, p := range all() {
		stateless := full(every)
		set(stateless, object(p), 0, 0)
		for _, d := range asks(p) {
			wantFoot(t, "none", full(every-1<<p), d, keys(table()))
			wantFoot(t, "none in a new store", store.New(), d, keys(table()))
			wantFoot(t, "one without a state", stateless, d, keys(table(), object(p)))
		}
		wantFoot(t, "State", full(every), func(v *store.View) { proc.State(v, p) }, keys(table(), object(p)))
	}
}

func TestP15_2NewReadsTheTableAlone(t *testing.T) {
	for _, p := range all() {
		for _, parent := range []int{-1, 0, p, 7, 8, 1 << 62} {
			s := full(odd | every - 1<<p)
			then := s.Get(table())
			then.N[0] = odd | every
			then.N[1]++
			wantFoot(t, "New", s, func(v *store.View) { wantNew(t, v, parent, p) }, keys(table()), put(table(), then), put(object(p), val(alive, parent+1, then.N[1])))
		}
	}
	for _, used := range []int{every, 2*every + 1, -1, math.MaxInt, odd | every, math.MinInt | every} {
		wantFoot(t, "a refused New", full(used), func(v *store.View) { wantNew(t, v, 0, -1) }, keys(table()))
	}
}

// Free writes the memory, and doesn't read it; what is zero already is written, too.
func TestP15_3FreeReadsNoMemory(t *testing.T) {
	for _, p := range all() {
		s := full(odd | every)
		then := s.Get(table())
		then.N[0] -= 1 << p
		wantFoot(t, "Free", s, func(v *store.View) { wantFree(t, v, p, true) }, keys(table(), object(p)), put(table(), then), put(object(p), zero), put(memory(p), zero))
		s = with(store.New(), put(table(), tableVal(1<<p, 0)), put(object(p), val(zombie, 0, 0)))
		wantFoot(t, "Free of the only one", s, func(v *store.View) { wantFree(t, v, p, true) }, keys(table(), object(p)), put(table(), zero), put(object(p), zero), put(memory(p), zero))
	}
}

// Kids asks for the state of each one: of those that are used, the object; whoever is asked for.
func TestP15_4KidsReadsWhoIsUsed(t *testing.T) {
	for _, p := range []int{-1, 0, 3, 7, 8, 64, math.MaxInt, math.MinInt} {
		for used := range 1 << maxProcs {
			s := full(odd | used)
			read := keys(table())
			for _, k := range all() {
				if used>>k%2 == 1 {
					read = append(read, object(k))
				}
				set(s, object(k), 0, k%3)
			}
			wantFoot(t, "Kids", s, func(v *store.View) { proc.Kids(v, p) }, read)
		}
	}
}

// ByPid asks for no more of them than up to the one that is told.
func TestP15_4ByPidReadsUpToIt(t *testing.T) {
	for used := range 1 << maxProcs {
		s := full(odd | used)
		var are []int
		for _, k := range all() {
			s.Put(object(k), val(k+1, 0, k+20))
			if used>>k%2 == 1 {
				are = append(are, k)
			}
		}
		wantFoot(t, "ByPid of none", s, func(v *store.View) { wantByPid(t, v, 99, -1) }, append(keys(table()), objects(are...)...))
		for i, k := range are {
			wantFoot(t, "ByPid", s, func(v *store.View) { wantByPid(t, v, k+20, k) }, append(keys(table()), objects(are[:i+1]...)...))
		}
		if len(are) > 1 {
			k := are[len(are)-1]
			for _, other := range are {
				set(s, object(other), 2, 5)
				set(s, object(other), 0, 0)
			}
			wantFoot(t, "ByPid of one without a state", s, func(v *store.View) { wantByPid(t, v, 5, -1) }, append(keys(table()), objects(are...)...))
			set(s, object(k), 0, zombie)
			wantFoot(t, "ByPid of the last alone", s, func(v *store.View) { wantByPid(t, v, 5, k) }, append(keys(table()), objects(are...)...))
		}
	}
}

func TestP15_5DescriptorsTouchTheProcessAlone(t *testing.T) {
	for _, p := range all() {
		own := keys(table(), object(p))
		for fd := range maxFd {
			s := full(odd | every)
			for _, n := range []int{0, 1, 12, 13, -1} {
				set(s, object(p), at(fd), n)
				wantFoot(t, "Fd", s, func(v *store.View) { proc.Fd(v, p, fd) }, own)
				for f := -1; f < maxFiles; f++ {
					then := s.Get(object(p))
					then.N[8+fd] = f + 1
					wantFoot(t, "SetFd", s, func(v *store.View) { wantSetFd(t, v, p, fd, f, true) }, own, put(object(p), then))
				}
				wantFoot(t, "SetFd of no file", s, func(v *store.View) { wantSetFd(t, v, p, fd, 12, false) }, own)
				wantFoot(t, "FreeFd", s, func(v *store.View) { proc.FreeFd(v, p) }, own)
			}
		}
		for _, fd := range noFds() {
			wantFoot(t, "Fd of none", full(every), func(v *store.View) { wantFd(t, v, p, fd, -1) }, own)
			wantFoot(t, "SetFd of none", full(every), func(v *store.View) { wantSetFd(t, v, p, fd, 1, false) }, own)
		}
		s := full(every)
		for fd := range maxFd {
			set(s, object(p), at(fd), 12)
		}
		wantFoot(t, "FreeFd without any", s, func(v *store.View) { wantFreeFd(t, v, p, -1) }, own)
	}
}

// What a view wrote is what it reads; whoever looks at the store sees nothing of it until it is put there.
func TestThroughTheView(t *testing.T) {
	s := store.New()
	v, w := store.Look(s), store.Look(s)
	wantNew(t, v, -1, 0)
	wantNew(t, v, 0, 1)
	wantSetFd(t, v, 1, 2, 9, true)
	wantNone(t, w, 0)
	wantKids(t, w, 0)
	wantNew(t, w, 5, 0)
	lay(s, v)
	wantHas(t, w, object(0), val(alive, 6, 1))
	u := store.Look(s)
	wantKids(t, u, 0, 1)
	wantKids(t, u, -1, 0)
	wantFd(t, u, 1, 2, 9)
	wantFree(t, u, 0, true)
	wantNew(t, u, 1, 0)
	wantByPid(t, u, 3, 0)
	wantState(t, store.Look(s), 0, alive)
	wantByPid(t, store.Look(s), 1, 0)
}
