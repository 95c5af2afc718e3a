package store_test

import (
	"math"
	"slices"
	"strconv"
	"strings"
	"testing"

	"cloister/api"
	"cloister/store"
)

// all is how many objects there are, counted by hand.
const all = 55

var zero = api.Value{}

func k(kind, n int) api.Key { return api.Key{Kind: kind, N: n} }

func keys(l ...api.Key) []api.Key { return l }

func write(x api.Key, v api.Value) api.Write { return api.Write{Key: x, Value: v} }

func writes(l ...api.Write) []api.Write { return l }

// val is a value that has another number at each place, and a text: none of them is val's of another n.
func val(n int) api.Value {
	v := api.Value{S: "value " + strconv.Itoa(n)}
	for i := range v.N {
		v.N[i] = 1000*n + i + 1
	}
	return v
}

// counts are how many there are of each kind, in the row's order, by hand.
func counts() []struct{ kind, count int } {
	return []struct{ kind, count int }{
		{api.KClock, 1}, {api.KPool, 1}, {api.KProcs, 1}, {api.KProc, 8}, {api.KFiles, 1}, {api.KFile, 12},
		{api.KPipes, 1}, {api.KPipe, 4}, {api.KInodes, 1}, {api.KInode, 16}, {api.KCons, 1}, {api.KMem, 8},
	}
}

// row is every object, in the row's order.
func row() []api.Key {
	var l []api.Key
	for _, q := range counts() {
		for n := range q.count {
			l = append(l, k(q.kind, n))
		}
	}
	return l
}

func first() api.Key { return k(api.KClock, 0) }

func last() api.Key { return k(api.KMem, 7) }

// strangers are keys of which there is no object; some of them are near to one if bits of them are lost.
func strangers() []api.Key {
	far := []int{99, 256, 257, 260, 1 << 16, 1<<31 - 1, 1 << 31, 1 << 32, 1<<32 + 1, 1<<32 + 4, math.MaxInt,
		-99, -256, -255, -1 << 31, -1 << 32, -1<<32 + 1, math.MinInt, math.MinInt + 1}
	var l []api.Key
	for _, kind := range append([]int{0, -1, -2, -12, 13, 14, 15, 16}, far...) {
		for _, n := range []int{0, 1, -1, 7, 8, 54, math.MaxInt, math.MinInt} {
			l = append(l, k(kind, n))
		}
	}
	for _, q := range counts() {
		for _, n := range append([]int{-1, -2, -q.count, q.count, q.count + 1, 2*q.count + 16, 54, 55}, far...) {
			l = append(l, k(q.kind, n))
		}
	}
	return l
}

// backwards is the row from its end on; mixed is the row in an order that neither rises nor falls.
func backwards() []api.Key {
	l := row()
	slices.Reverse(l)
	return l
}

func mixed(step int) []api.Key {
	var l []api.Key
	for i := range all {
		l = append(l, row()[i*step%all])
	}
	return l
}

// full is a store whose object at place i is val(i + 1).
func full() *store.Store {
	s := store.New()
	for place, x := range row() {
		s.Put(x, val(place+1))
	}
	return s
}

// wantStore wants of each object of the row what want tells of its place.
func wantStore(t *testing.T, what string, s *store.Store, want func(place int) api.Value) {
	t.Helper()
	for place, x := range row() {
		if got := s.Get(x); got != want(place) {
			t.Fatalf("%s: object %v is %v, not %v", what, x, got, want(place))
		}
	}
}

func wantFull(t *testing.T, what string, s *store.Store) {
	t.Helper()
	wantStore(t, what, s, func(place int) api.Value { return val(place + 1) })
}

func wantGet(t *testing.T, v *store.View, x api.Key, want api.Value) {
	t.Helper()
	if got := v.Get(x); got != want {
		t.Fatalf("a view's Get(%v): %v, not %v", x, got, want)
	}
}

// wantView wants what was read, read or written, and written; each is asked twice, as asking must change nothing.
func wantView(t *testing.T, v *store.View, reads, foot []api.Key, redo []api.Write) {
	t.Helper()
	for range 2 {
		if got := v.Reads(); !slices.Equal(got, reads) {
			t.Fatalf("Reads: %v, not %v", got, reads)
		}
		if got := v.Foot(); !slices.Equal(got, foot) {
			t.Fatalf("Foot: %v, not %v", got, foot)
		}
		if got := v.Redo(); !slices.Equal(got, redo) {
			t.Fatalf("Redo: %v, not %v", got, redo)
		}
	}
}

func TestRuns(t *testing.T) {
	clock, five, six := first(), api.Value{N: [16]int{5}}, api.Value{N: [16]int{6}}
	s := store.New()
	s.Put(clock, five)
	v := store.Look(s)
	wantGet(t, v, clock, five)
	v.Put(clock, six)
	wantGet(t, v, clock, six)
	if got := s.Get(clock); got != five {
		t.Errorf("the store has %v, not %v", got, five)
	}
	wantView(t, v, keys(clock), keys(clock), writes(write(clock, six)))
}

func TestP8_1NewStoreIsZero(t *testing.T) {
	full()
	s := store.New()
	wantStore(t, "a new store", s, func(int) api.Value { return zero })
	if len(row()) != all || row()[0] != first() || row()[all-1] != last() {
		t.Errorf("the row of this test: %v", row())
	}
	other := store.New()
	s.Put(first(), val(1))
	wantStore(t, "another new store", other, func(int) api.Value { return zero })
}

// Each object by itself: no other one has changed.
func TestP8_1PutOfEveryObjectAlone(t *testing.T) {
	for at, x := range row() {
		s := store.New()
		if !s.Put(x, val(at+1)) {
			t.Errorf("Put(%v): false", x)
		}
		wantStore(t, "one object", s, func(place int) api.Value {
			if place == at {
				return val(at + 1)
			}
			return zero
		})
	}
}

func TestP8_1PutOfAllTogether(t *testing.T) {
	for _, order := range [][]api.Key{row(), backwards(), mixed(7), mixed(23)} {
		s := store.New()
		for _, x := range order {
			if !s.Put(x, val(slices.Index(row(), x)+1)) {
				t.Errorf("Put(%v): false", x)
			}
		}
		wantFull(t, "all objects", s)
		for _, x := range order {
			s.Put(x, val(99))
			s.Put(x, val(slices.Index(row(), x)+1))
		}
		wantFull(t, "all objects, put again", s)
	}
}

// A value is kept with all its numbers and its whole text, whatever they are.
func TestP8_1PutKeepsTheWholeValue(t *testing.T) {
	s := store.New()
	for i := range 16 {
		for _, n := range []int{1, -1, math.MaxInt, math.MinInt} {
			v := api.Value{}
			v.N[i] = n
			s.Put(last(), v)
			if got := s.Get(last()); got != v {
				t.Errorf("%v, not %v", got, v)
			}
		}
	}
	for _, text := range []string{"a", "\x00", "\x00\xff\x80", "ab\x00cd", strings.Repeat("long", 5000)} {
		s.Put(first(), api.Value{S: text})
		if got := s.Get(first()); got != (api.Value{S: text}) {
			t.Errorf("%d bytes, not %d", len(got.S), len(text))
		}
	}
}

func TestP8_1PutOfZero(t *testing.T) {
	for at, x := range row() {
		s := full()
		if !s.Put(x, zero) {
			t.Errorf("Put(%v, zero): false", x)
		}
		wantStore(t, "one object put zero", s, func(place int) api.Value {
			if place == at {
				return zero
			}
			return val(place + 1)
		})
	}
	if s := store.New(); !s.Put(first(), zero) || s.Get(first()) != zero {
		t.Error("zero is put where zero was")
	}
}

// What was got is the caller's own: its array is changed, the object isn't.
func TestP8_1ValuesAreCopied(t *testing.T) {
	s := store.New()
	mine := val(1)
	s.Put(first(), mine)
	mine.N[0], mine.S = 99, "mine"
	got := s.Get(first())
	got.N[0], got.S = 98, "got"
	if again := s.Get(first()); again != val(1) {
		t.Errorf("%v, not %v", again, val(1))
	}
}

func TestP8_1Strangers(t *testing.T) {
	s, empty := full(), store.New()
	for _, x := range strangers() {
		if slices.Contains(row(), x) {
			t.Fatalf("%v is no stranger", x)
		}
		if s.Put(x, val(77)) || empty.Put(x, val(77)) || s.Put(x, zero) {
			t.Errorf("Put(%v): true", x)
		}
		if s.Get(x) != zero || empty.Get(x) != zero || s.Twin().Get(x) != zero {
			t.Errorf("Get(%v) is not zero", x)
		}
	}
	wantFull(t, "behind strangers", s)
	wantFull(t, "the twin behind strangers", s.Twin())
	wantStore(t, "empty behind strangers", empty, func(int) api.Value { return zero })
}

func TestP8_1TwinHasTheSame(t *testing.T) {
	wantStore(t, "the twin of a new store", store.New().Twin(), func(int) api.Value { return zero })
	wantFull(t, "a twin", full().Twin())
	wantFull(t, "a twin of a twin", full().Twin().Twin())
	s := store.New().Twin()
	for place, x := range row() {
		if !s.Put(x, val(place+1)) {
			t.Errorf("Put(%v) into the twin of a new store: false", x)
		}
	}
	wantFull(t, "a twin that was filled", s)
}

// Into each of three that come of one another, for each object, one Put: the other two stay.
func TestP8_1TwinsDoNotTouchEachOther(t *testing.T) {
	for into := range 3 {
		for at, x := range row() {
			a := full()
			b := a.Twin()
			c := b.Twin()
			three := []*store.Store{a, b, c}
			if !three[into].Put(x, val(80+into)) {
				t.Errorf("Put(%v): false", x)
			}
			for i, s := range three {
				wantStore(t, "one of three", s, func(place int) api.Value {
					if i == into && place == at {
						return val(80 + into)
					}
					return val(place + 1)
				})
			}
		}
	}
}

func TestP8_1TwinsOfOneStoreInTurns(t *testing.T) {
	s := store.New()
	var twins []*store.Store
	for place, x := range row() {
		twins = append(twins, s.Twin())
		s.Put(x, val(place+1))
	}
	for i, u := range twins {
		wantStore(t, "a twin of its time", u, func(place int) api.Value {
			if place < i {
				return val(place + 1)
			}
			return zero
		})
	}
}
