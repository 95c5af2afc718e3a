package pipe_test

import (
	"math"
	"testing"

	"cloister/api"
	"cloister/store"
)

func TestP13_5MoreAndFewer(t *testing.T) {
	v := store.Look(store.New())
	wantAlloc(t, v, 0)
	wantAlloc(t, v, 1)
	wantWrite(t, v, 1, "xyz", 3, done)
	for _, q := range []struct {
		writer           bool
		by               int
		readers, writers int
	}{
		{true, 1, 1, 2}, {false, 2, 3, 2}, {true, -1, 3, 1}, {false, 0, 3, 1}, {true, 0, 3, 1}, {true, -1, 3, 0}, {true, -1, 3, -1}, {true, 3, 3, 2}, {false, -3, 0, 2}, {false, -2, -2, 2},
		{true, -1, -2, 1}, {false, 3, 1, 1}, {true, -1, 1, 0}, {false, 0, 1, 0}, {true, 0, 1, 0},
	} {
		wantEnds(t, v, 1, q.writer, q.by, true)
		wantHas(t, v, object(1), val(q.readers, q.writers, "xyz"))
		wantHas(t, v, table(), bits(0, 1))
		wantIs(t, v, 1, true)
	}
	wantEnds(t, v, 1, false, -1, true)
	wantNone(t, v, 1)
	wantHas(t, v, object(1), zero)
	wantHas(t, v, table(), bits(0))
	wantHas(t, v, object(0), val(1, 1, ""))
}

// wantSum changes the ends of pipe q in a store where all objects have something, and wants what comes of it.
func wantSum(t *testing.T, q int, x api.Value, writer bool, by int) {
	t.Helper()
	s := full(odd | 15)
	s.Put(object(q), x)
	v := store.Look(s)
	wantEnds(t, v, q, writer, by, true)
	want := x
	at := 0
	if writer {
		at = 1
	}
	want.N[at] += by
	used := s.Get(table())
	if want.N[0] < 1 && want.N[1] < 1 {
		want = zero
		used.N[0] = odd | 15 - 1<<q
		wantNone(t, v, q)
	} else {
		wantIs(t, v, q, true)
	}
	wantHas(t, v, object(q), want)
	wantHas(t, v, table(), used)
	for _, other := range others(q) {
		wantIs(t, v, other, true)
		wantHas(t, v, object(other), full(0).Get(object(other)))
	}
}

// Numbers about 0, and changes about them: to above 0, to 0, to below 0, beside another that is above it or not.
func TestP13_5AboutZero(t *testing.T) {
	for readers := -3; readers <= 3; readers++ {
		for writers := -3; writers <= 3; writers++ {
			for by := -5; by <= 5; by++ {
				wantSum(t, 2, val(readers, writers, "abc"), true, by)
				wantSum(t, 2, val(readers, writers, ""), false, by)
			}
		}
	}
}

// Numbers and changes of any size; a sum beyond what an int holds goes round, as ints do.
func TestP13_5AnyNumbers(t *testing.T) {
	for _, readers := range counts() {
		for _, writers := range counts() {
			for _, by := range counts() {
				wantSum(t, 1, val(readers, writers, "z"), true, by)
				wantSum(t, 1, val(readers, writers, "z"), false, by)
			}
		}
	}
}

// All else of a pipe that stays is as it was; of one that goes nothing is left, be there bytes in it.
func TestP13_5EveryPipe(t *testing.T) {
	for _, q := range all() {
		x := full(0).Get(object(q))
		for _, by := range []int{0, 1, -1, 9, -x.N[0], -x.N[1], 1 - x.N[0], 1 - x.N[1]} {
			wantSum(t, q, x, true, by)
			wantSum(t, q, x, false, by)
		}
		for _, left := range []int{0, -1, math.MinInt} {
			y := x
			y.N[0] = left
			for _, by := range []int{-x.N[1], 1 - x.N[1], -x.N[1] - 1, -9999, 0} {
				wantSum(t, q, y, true, by)
			}
			y = x
			y.N[1] = left
			for _, by := range []int{-x.N[0], 1 - x.N[0], -x.N[0] - 1, -9999, 0} {
				wantSum(t, q, y, false, by)
			}
		}
	}
}

// The bit is cleared, and all else of the table stays, whatever the table has.
func TestP13_5TheTableAtTheEnd(t *testing.T) {
	for _, q := range all() {
		for _, high := range oddTables() {
			for used := range 1 << maxPipes {
				s := full(high + used)
				x := val(0, 1, "abc")
				s.Put(object(q), x)
				v := store.Look(s)
				had := used>>q%2 == 1
				wantEnds(t, v, q, true, -1, had)
				then := s.Get(table())
				if had {
					then.N[0] -= 1 << q
					x = zero
				}
				wantHas(t, v, table(), then)
				wantHas(t, v, object(q), x)
			}
		}
	}
}

func TestP13_5Refused(t *testing.T) {
	s := full(odd | 15)
	v := store.Look(s)
	for _, q := range strangers() {
		for _, by := range counts() {
			wantEnds(t, v, q, true, by, false)
			wantEnds(t, v, q, false, by, false)
		}
	}
	if len(v.Foot()) != 0 {
		t.Errorf("strangers: %v", v.Foot())
	}
	for _, q := range all() {
		s = full(odd | 15 - 1<<q)
		v = store.Look(s)
		for _, by := range counts() {
			wantEnds(t, v, q, true, by, false)
			wantEnds(t, v, q, false, by, false)
		}
		if len(v.Redo()) != 0 {
			t.Errorf("pipe %d, that is none: %v", q, v.Redo())
		}
	}
}

// What is in a pipe is read to its end when all who write are gone; a new writer makes the readers wait again.
func TestP13_5ReadersOutliveWriters(t *testing.T) {
	v := store.Look(store.New())
	wantAlloc(t, v, 0)
	wantWrite(t, v, 0, "abc", 3, done)
	wantEnds(t, v, 0, true, -1, true)
	wantRead(t, v, 0, 2, "ab", done)
	wantRead(t, v, 0, 2, "c", done)
	wantRead(t, v, 0, 2, "", done)
	wantRead(t, v, 0, 2, "", done)
	wantEnds(t, v, 0, true, 1, true)
	wantRead(t, v, 0, 2, "", blocks)
	wantWrite(t, v, 0, "d", 1, done)
	wantEnds(t, v, 0, true, -5, true)
	wantRead(t, v, 0, 2, "d", done)
	wantRead(t, v, 0, 2, "", done)
	wantEnds(t, v, 0, false, -1, true)
	wantNone(t, v, 0)
}

// What was written stays for a reader that is yet to come; a write fails meanwhile.
func TestP13_5WritersOutliveReaders(t *testing.T) {
	v := store.Look(store.New())
	wantAlloc(t, v, 0)
	wantWrite(t, v, 0, "abc", 3, done)
	wantEnds(t, v, 0, false, -1, true)
	wantWrite(t, v, 0, "d", -1, fails)
	wantWrite(t, v, 0, "", -1, fails)
	wantEnds(t, v, 0, false, 2, true)
	wantWrite(t, v, 0, "d", 1, done)
	wantRead(t, v, 0, 9, "abcd", done)
	wantEnds(t, v, 0, false, -2, true)
	wantEnds(t, v, 0, true, -1, true)
	wantNone(t, v, 0)
}

func TestP13_5GoneAndHadAgain(t *testing.T) {
	v := store.Look(store.New())
	wantAlloc(t, v, 0)
	for range 40 {
		wantAlloc(t, v, 1)
		wantEnds(t, v, 1, true, 2, true)
		wantWrite(t, v, 1, "abc", 3, done)
		wantEnds(t, v, 1, true, -3, true)
		wantRead(t, v, 1, 2, "ab", done)
		wantEnds(t, v, 1, false, -1, true)
		wantNone(t, v, 1)
		wantHas(t, v, table(), bits(0))
		wantHas(t, v, object(1), zero)
	}
}
