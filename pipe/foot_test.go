package pipe_test

import (
	"math"
	"slices"
	"testing"

	"cloister/api"
	"cloister/pipe"
	"cloister/store"
)

// deed does one call, or some.
type deed func(v *store.View)

// wantFoot does the deed through a new view of s, and wants what was read, what was written with its values, and that
// s is as it was.
func wantFoot(t *testing.T, what string, s *store.Store, d deed, reads []api.Key, redo ...api.Write) {
	t.Helper()
	was, v := s.Twin(), store.Look(s)
	d(v)
	if got := v.Reads(); !slices.Equal(got, reads) {
		t.Errorf("%s: read %v, not %v", what, got, reads)
	}
	if got := v.Redo(); !slices.Equal(got, redo) {
		t.Errorf("%s: written %v, not %v", what, got, redo)
	}
	for _, k := range row() {
		if s.Get(k) != was.Get(k) {
			t.Errorf("%s: the store's %v has changed", what, k)
		}
	}
}

func put(k api.Key, x api.Value) api.Write { return api.Write{Key: k, Value: x} }

// asks are calls of all kinds but Alloc.
func asks(q int) []deed {
	return []deed{
		func(v *store.View) { pipe.Is(v, q) },
		func(v *store.View) { pipe.Read(v, q, 0) },
		func(v *store.View) { pipe.Read(v, q, 1) },
		func(v *store.View) { pipe.Read(v, q, -1) },
		func(v *store.View) { pipe.Read(v, q, math.MaxInt) },
		func(v *store.View) { pipe.Read(v, q, math.MinInt) },
		func(v *store.View) { pipe.Write(v, q, "") },
		func(v *store.View) { pipe.Write(v, q, "x") },
		func(v *store.View) { pipe.Write(v, q, text(40)) },
		func(v *store.View) { pipe.Ends(v, q, true, 1) },
		func(v *store.View) { pipe.Ends(v, q, false, 0) },
		func(v *store.View) { pipe.Ends(v, q, true, math.MinInt) },
		func(v *store.View) { pipe.Ends(v, q, false, -9999) },
	}
}

func TestP13_1WhatIsNoneReadsNoMoreThanTheTable(t *testing.T) {
	for _, used := range []int{0, 15, -1, odd} {
		for _, q := range strangers() {
			for _, d := range asks(q) {
				wantFoot(t, "a stranger", full(used), d, nil)
			}
		}
	}
	for _, q := range all() {
		for _, d := range asks(q) {
			wantFoot(t, "none", full(15-1<<q), d, keys(table()))
			wantFoot(t, "none in a new store", store.New(), d, keys(table()))
		}
		wantFoot(t, "Is", full(15), func(v *store.View) { pipe.Is(v, q) }, keys(table()))
	}
}

func TestP13_2AllocReadsTheTableAlone(t *testing.T) {
	for _, q := range all() {
		s := full(odd | 15 - 1<<q)
		then := s.Get(table())
		then.N[0] = odd | 15
		wantFoot(t, "Alloc", s, func(v *store.View) { wantAlloc(t, v, q) }, keys(table()), put(table(), then), put(object(q), val(1, 1, "")))
	}
	for _, used := range []int{15, 31, -1, math.MaxInt, odd | 15, math.MinInt | 15} {
		wantFoot(t, "a refused Alloc", full(used), func(v *store.View) { wantAlloc(t, v, -1) }, keys(table()))
	}
}

func TestP13_3ReadWritesWhatGoesAlone(t *testing.T) {
	for _, q := range all() {
		both := keys(table(), object(q))
		for _, x := range []api.Value{val(1, 1, "abc"), val(0, 0, "abc"), val(5, -1, "abc")} {
			left := x
			left.S = "c"
			wantFoot(t, "Read", one(q, x), func(v *store.View) { wantRead(t, v, q, 2, "ab", done) }, both, put(object(q), left))
			left.S = ""
			wantFoot(t, "Read", one(q, x), func(v *store.View) { wantRead(t, v, q, 9, "abc", done) }, both, put(object(q), left))
			wantFoot(t, "a Read of nothing", one(q, x), func(v *store.View) { wantRead(t, v, q, 0, "", done) }, both)
			wantFoot(t, "a failing Read", one(q, x), func(v *store.View) { wantRead(t, v, q, -1, "", fails) }, keys(table()))
		}
		wantFoot(t, "a Read of an empty pipe", one(q, val(1, 0, "")), func(v *store.View) { wantRead(t, v, q, 2, "", done) }, both)
		wantFoot(t, "a Read that blocks", one(q, val(1, 1, "")), func(v *store.View) { wantRead(t, v, q, 2, "", blocks) }, both)
	}
}

func TestP13_4WriteWritesWhatComesAlone(t *testing.T) {
	for _, q := range all() {
		both := keys(table(), object(q))
		wantFoot(t, "Write", one(q, val(1, 0, "")), func(v *store.View) { wantWrite(t, v, q, "abc", 3, done) }, both, put(object(q), val(1, 0, "abc")))
		wantFoot(t, "Write", one(q, val(9, 1, text(15))), func(v *store.View) { wantWrite(t, v, q, "abc", 1, done) }, both, put(object(q), val(9, 1, text(15)+"a")))
		wantFoot(t, "an empty Write", one(q, val(1, 1, "ab")), func(v *store.View) { wantWrite(t, v, q, "", 0, done) }, both)
		wantFoot(t, "an empty Write of a full one", one(q, val(1, 1, text(16))), func(v *store.View) { wantWrite(t, v, q, "", 0, done) }, both)
		for _, size := range []int{16, 17, 40} {
			wantFoot(t, "a Write that blocks", one(q, val(1, 1, text(size))), func(v *store.View) { wantWrite(t, v, q, "x", 0, blocks) }, both)
		}
		for _, d := range []string{"", "x", text(40)} {
			for _, size := range []int{0, 15, 16, 17} {
				wantFoot(t, "a failing Write", one(q, val(0, 1, text(size))), func(v *store.View) { wantWrite(t, v, q, d, -1, fails) }, both)
			}
		}
	}
}

func TestP13_5EndsWritesTheTableAtTheEndAlone(t *testing.T) {
	for _, q := range all() {
		both := keys(table(), object(q))
		for _, by := range []int{0, 1, -1, 7, -9999} {
			wantFoot(t, "Ends", one(q, val(3, 4, "abc")), func(v *store.View) { wantEnds(t, v, q, true, by, true) }, both, put(object(q), val(3, 4+by, "abc")))
			wantFoot(t, "Ends", one(q, val(3, 4, "abc")), func(v *store.View) { wantEnds(t, v, q, false, by, true) }, both, put(object(q), val(3+by, 4, "abc")))
		}
		for _, by := range []int{-1, -2, -9999} {
			wantFoot(t, "the last writer", one(q, val(0, 1, "abc")), func(v *store.View) { wantEnds(t, v, q, true, by, true) }, both, put(table(), zero), put(object(q), zero))
			wantFoot(t, "the last reader", one(q, val(1, 0, "")), func(v *store.View) { wantEnds(t, v, q, false, by, true) }, both, put(table(), zero), put(object(q), zero))
		}
		// One that goes is written even if it was zero.
		wantFoot(t, "a zero pipe", one(q, zero), func(v *store.View) { wantEnds(t, v, q, false, 0, true) }, both, put(table(), zero), put(object(q), zero))
	}
}

// What a view wrote is what it reads; whoever looks at the store sees nothing of it until it is put there.
func TestThroughTheView(t *testing.T) {
	s := store.New()
	v, w := store.Look(s), store.Look(s)
	wantAlloc(t, v, 0)
	wantWrite(t, v, 0, "abc", 3, done)
	wantNone(t, w, 0)
	wantAlloc(t, w, 0)
	wantWrite(t, w, 0, "other", 5, done)
	wantRead(t, v, 0, 1, "a", done)
	lay(s, v)
	wantRead(t, w, 0, 9, "other", done)
	u := store.Look(s)
	wantRead(t, u, 0, 9, "bc", done)
	wantAlloc(t, u, 1)
}
