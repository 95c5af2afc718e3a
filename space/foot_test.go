package space_test

import (
	"math"
	"slices"
	"testing"

	"cloister/api"
	"cloister/space"
	"cloister/store"
)

// deed does one call, or some.
type deed func(v *store.View)

// wantFoot does the deed through a new view of s, and wants what was read, what was written with its values, and that
// s is as it was.
func wantFoot(t *testing.T, what string, s *store.Store, d deed, read []api.Key, redo ...api.Write) {
	t.Helper()
	was, v := s.Twin(), store.Look(s)
	d(v)
	if got := v.Reads(); !slices.Equal(got, read) {
		t.Errorf("%s: read %v, not %v", what, got, read)
	}
	if got := v.Redo(); !slices.Equal(got, redo) {
		t.Errorf("%s: written %v, not %v", what, got, redo)
	}
	for _, k := range row() {
		if s.Get(k) != was.Get(k) {
			t.Errorf("%s: the store's %v has changed", what, k)
		}
	}
}

func grows(p, n int) deed { return func(v *store.View) { space.Grow(v, p, n) } }

func shrinks(p, n int) deed { return func(v *store.View) { space.Shrink(v, p, n) } }

// same are these objects, written with what they have.
func same(s *store.Store, l ...api.Key) []api.Write {
	var to []api.Write
	for _, k := range l {
		to = append(to, put(k, s.Get(k)))
	}
	return to
}

// asks are calls of all kinds that ask for p's state first.
func asks(p int) []deed {
	l := []deed{func(v *store.View) { space.Pages(v, p) }}
	for _, n := range []int{-1, 0, 1, 2, 6, 7, math.MaxInt, math.MinInt} {
		l = append(l, grows(p, n), shrinks(p, n))
	}
	return l
}

func TestP16_1WhatIsNoneReadsNoMoreThanItsState(t *testing.T) {
	for _, p := range strangers() {
		for _, d := range asks(p) {
			wantFoot(t, "a stranger", full(2), d, nil)
		}
	}
	for _, p := range all() {
		stateless, unused := full(2), full(2)
		set(stateless, process(p), 0, 0)
		set(unused, table(), 0, 255-1<<p)
		for _, d := range asks(p) {
			wantFoot(t, "none", unused, d, keys(table()))
			wantFoot(t, "none in a new store", store.New(), d, keys(table()))
			wantFoot(t, "one without a state", stateless, d, keys(table(), process(p)))
		}
	}
}

func TestP16_1AskingWritesNothing(t *testing.T) {
	for n := range maxSize + 1 {
		s := full(n)
		for _, p := range all() {
			wantFoot(t, "Pages", s, func(v *store.View) { space.Pages(v, p) }, keys(table(), process(p)))
		}
		wantFoot(t, "Free", s, func(v *store.View) { space.Free(v) }, keys(pool()))
	}
	wantFoot(t, "Free of a new store", store.New(), func(v *store.View) { space.Free(v) }, keys(pool()))
}

// A refused Grow reads as far as it asked: the state alone for a number below 0, the process and its memory for one
// that is too great, the pool behind them.
func TestP16_2RefusedGrows(t *testing.T) {
	for had := range maxSize + 3 {
		for _, p := range all() {
			s := full(2)
			write(s, process(p), raw(from(8*p, had)...))
			s.Put(pool(), words(s, 0, -1))
			for _, n := range []int{-1, -6, -7, -64, -1 << 32, math.MinInt} {
				wantFoot(t, "Grow by fewer than none", s, grows(p, n), keys(table(), process(p)))
			}
			least := max(maxSize-had+1, 0)
			for _, n := range []int{least, least + 1, 64, 65, 1 << 32, math.MaxInt} {
				wantFoot(t, "Grow by too many", s, grows(p, n), own(p))
			}
			for n := 1; n < least; n++ {
				wantFoot(t, "Grow by more than are free", s, grows(p, n), whole(p))
			}
		}
	}
}

// Shrink asks for the pool only when it has been granted.
func TestP16_3RefusedShrinks(t *testing.T) {
	for had := range maxSize + 3 {
		for _, p := range all() {
			s := full(2)
			write(s, process(p), raw(from(8*p, had)...))
			for _, n := range []int{-1, -6, -7, -64, -1 << 32, math.MinInt} {
				wantFoot(t, "Shrink by fewer than none", s, shrinks(p, n), keys(table(), process(p)))
			}
			for _, n := range []int{had + 1, had + 2, 64, 65, 1 << 32, math.MaxInt} {
				wantFoot(t, "Shrink by too many", s, shrinks(p, n), own(p))
			}
		}
	}
}

// By none, too: all three objects are read and written, with what they had.
func TestP16_2ByNoneAllAreWritten(t *testing.T) {
	for had := range maxSize + 1 {
		s := full(had)
		for _, p := range all() {
			redo := same(s, pool(), process(p), memory(p))
			wantFoot(t, "Grow by none", s, grows(p, 0), whole(p), redo...)
			wantFoot(t, "Shrink by none", s, shrinks(p, 0), whole(p), redo...)
			empty := some(maxProcs, 0, 0)
			redo = same(empty, pool(), process(p), memory(p))
			wantFoot(t, "Grow by none of none", empty, grows(p, 0), whole(p), redo...)
			wantFoot(t, "Shrink by none of none", empty, shrinks(p, 0), whole(p), redo...)
		}
	}
}

func TestP16_2GrownAndShrunk(t *testing.T) {
	for had := range maxSize + 1 {
		for _, p := range all() {
			s := full(had)
			for n := 1; n <= maxSize-had; n++ {
				l, left := least(s.Get(pool()).N[0], n)
				wantFoot(t, "Grow", s, grows(p, n), whole(p), put(pool(), words(s, left, 0)), put(process(p), has(s, process(p), raw(from(8*p, had)...)+raw(l...))), put(memory(p), has(s, memory(p), ink(had*pageLen)+noughts(n*pageLen))))
			}
			for n := 1; n <= had; n++ {
				away := word(from(8*p+had-n, n)...)
				wantFoot(t, "Shrink", s, shrinks(p, n), whole(p), put(pool(), words(s, s.Get(pool()).N[0], away)), put(process(p), has(s, process(p), raw(from(8*p, had-n)...))), put(memory(p), has(s, memory(p), ink((had-n)*pageLen))))
			}
		}
	}
}

// Back asks nobody but the pool, and writes it whatever it is given.
func TestP16_4BackTouchesThePoolAlone(t *testing.T) {
	for _, l := range [][]int{nil, {}, {0}, {63}, {1, 1}, {-1}, {64}, {math.MinInt, math.MaxInt}, from(0, 64), noPages()} {
		s := full(3)
		wantFoot(t, "Back of what is not on its way", s, func(v *store.View) { space.Back(v, l) }, keys(pool()), same(s, pool())...)
		wantFoot(t, "Back in a new store", store.New(), func(v *store.View) { space.Back(v, l) }, keys(pool()), put(pool(), zero))
	}
	s := full(3)
	s.Put(pool(), words(s, 8, word(2, 63)))
	wantFoot(t, "Back", s, func(v *store.View) { space.Back(v, []int{63, 1}) }, keys(pool()), put(pool(), words(s, word(3, 63), word(2))))
}

// What a view wrote is what it reads; whoever looks at the store sees nothing of it until it is put there.
func TestThroughTheView(t *testing.T) {
	s := some(2, word(0, 1, 2), 0)
	v, w := store.Look(s), store.Look(s)
	wantGrow(t, v, 0, 2, true)
	wantShrink(t, v, 0, 1)
	wantPages(t, v, 0, 0)
	wantPages(t, w, 0)
	wantFree(t, w, 3)
	space.Back(w, []int{1})
	wantFree(t, w, 3)
	wantGrow(t, store.Look(s), 1, 3, true)
	lay(s, v)
	u := store.Look(s)
	wantPages(t, u, 0, 0)
	wantFree(t, u, 1)
	wantGrow(t, u, 1, 2, false)
	space.Back(u, []int{1})
	wantGrow(t, u, 1, 2, true)
	wantPages(t, u, 1, 1, 2)
	wantPages(t, store.Look(s), 1)
	wantFree(t, store.Look(s), 1)
}
