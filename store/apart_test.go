package store_test

import (
	"slices"
	"testing"

	"cloister/api"
	"cloister/store"
)

// A view is used in every way; then the store, its twin, and another view of it are as they were.
func TestP8_4ViewChangesNothingButItself(t *testing.T) {
	s := full()
	twin, other := s.Twin(), store.Look(s)
	other.Get(first())
	other.Put(last(), val(70))
	v := store.Look(s)
	for i, x := range mixed(7) {
		v.Get(x)
		v.Put(x, val(71+i%3))
		v.Get(x)
		v.Get(strangers()[i])
		v.Put(strangers()[i], val(71))
		spoilKeys(v.Reads())
		spoilKeys(v.Foot())
		spoilWrites(v.Redo())
		wantFull(t, "the store", s)
		wantFull(t, "its twin", twin)
		wantView(t, other, keys(first()), keys(first(), last()), writes(write(last(), val(70))))
	}
	wantGet(t, other, k(api.KProc, 0), val(4))
	wantGet(t, other, last(), val(70))
}

func TestP8_4TwoViewsOfOneStore(t *testing.T) {
	for place, x := range row() {
		s := full()
		a, b := store.Look(s), store.Look(s)
		a.Put(x, val(70))
		wantGet(t, b, x, val(place+1))
		wantView(t, b, keys(x), keys(x), nil)
		b.Put(x, val(71))
		wantView(t, a, nil, keys(x), writes(write(x, val(70))))
		wantGet(t, a, x, val(70))
		wantGet(t, b, x, val(71))
		s.Put(x, val(72))
		wantGet(t, a, x, val(70))
		wantGet(t, b, x, val(71))
		wantGet(t, store.Look(s), x, val(72))
	}
}

// A view of a store has nothing to do with the store's twin, nor a view of the twin with the store.
func TestP8_4ViewsOfTwins(t *testing.T) {
	s := full()
	u := s.Twin()
	v, w := store.Look(s), store.Look(u)
	s.Put(first(), val(70))
	u.Put(first(), val(71))
	v.Put(last(), val(72))
	wantGet(t, v, first(), val(70))
	wantGet(t, w, first(), val(71))
	wantGet(t, w, last(), val(55))
	wantGet(t, v, last(), val(72))
}

// deed does something through a view: what it writes hangs on what it read.
type deed func(v *store.View)

// mix is a deed that gathers what it reads of some objects, and writes it with a mark of its own into others.
func mix(mark int, from, into []api.Key) deed {
	return func(v *store.View) {
		sum := api.Value{}
		for _, x := range from {
			sum.N[0] += v.Get(x).N[0]
			sum.S += v.Get(x).S
		}
		for i, x := range into {
			sum.N[1] = mark + i
			v.Put(x, sum)
		}
	}
}

// done is a new view through which the deed was done.
func done(s *store.Store, d deed) *store.View {
	v := store.Look(s)
	d(v)
	return v
}

func put(s *store.Store, l []api.Write) {
	for _, w := range l {
		s.Put(w.Key, w.Value)
	}
}

// serial does one deed behind the other, each on what the one ahead left.
func serial(deeds ...deed) *store.Store {
	s := full()
	for _, d := range deeds {
		put(s, done(s, d).Redo())
	}
	return s
}

func same(a, b *store.Store) bool {
	return !slices.ContainsFunc(row(), func(x api.Key) bool { return a.Get(x) != b.Get(x) })
}

func apart(a, b []api.Key) bool {
	return !slices.ContainsFunc(a, func(x api.Key) bool { return slices.Contains(b, x) })
}

// permutations hands f the list in each of its orders.
func permutations(l []api.Write, at int, f func([]api.Write)) {
	if at == len(l) {
		f(l)
		return
	}
	for i := at; i < len(l); i++ {
		l[at], l[i] = l[i], l[at]
		permutations(l, at+1, f)
		l[at], l[i] = l[i], l[at]
	}
}

// few are two deeds of footprints that have nothing in common, with neighbours in the row among them.
func few() (deed, deed) {
	a := mix(100, keys(k(api.KProc, 1), k(api.KClock, 0), k(api.KPipe, 2)), keys(k(api.KClock, 0), k(api.KFile, 1), k(api.KMem, 7)))
	b := mix(200, keys(k(api.KFile, 2), k(api.KProc, 2)), keys(k(api.KFile, 0), k(api.KProc, 2), k(api.KMem, 6)))
	return a, b
}

func TestP8_4PutInEveryOrder(t *testing.T) {
	a, b := few()
	want := serial(a, b)
	if !same(want, serial(b, a)) {
		t.Fatal("one behind the other they are not the same")
	}
	s := full()
	v, w := done(s, a), done(s, b)
	if !apart(v.Foot(), w.Foot()) || len(v.Redo()) != 3 || len(w.Redo()) != 3 {
		t.Fatalf("footprints %v, %v", v.Foot(), w.Foot())
	}
	n := 0
	permutations(slices.Concat(v.Redo(), w.Redo()), 0, func(order []api.Write) {
		n++
		u := s.Twin()
		put(u, order)
		if !same(u, want) {
			t.Errorf("in the order %v it is not the same", order)
		}
	})
	if n != 720 {
		t.Errorf("%d orders", n)
	}
}

// While one is put, the other is looked through anew at each place between: it reads and writes what it did at first.
func TestP8_4LookedThroughBetween(t *testing.T) {
	a, b := few()
	for _, q := range [][2]deed{{a, b}, {b, a}} {
		s := full()
		v, w := done(s, q[0]), done(s, q[1])
		reads, foot, redo := w.Reads(), w.Foot(), w.Redo()
		for _, x := range v.Redo() {
			s.Put(x.Key, x.Value)
			wantView(t, w, reads, foot, redo)
			wantView(t, done(s, q[1]), reads, foot, redo)
		}
		put(s, redo)
		if !same(s, serial(a, b)) {
			t.Error("it is not what one behind the other makes")
		}
	}
}

// All objects are one's or the other's, by many ways to part them, and are put in many orders.
func TestP8_4AllObjectsParted(t *testing.T) {
	for part := 2; part < 7; part++ {
		var mine, others []api.Key
		for place, x := range row() {
			if place%part == 0 {
				mine = append(mine, x)
			} else {
				others = append(others, x)
			}
		}
		a, b := mix(1000, mine, mine), mix(2000, others, others)
		want := serial(a, b)
		s := full()
		v, w := done(s, a), done(s, b)
		if !apart(v.Foot(), w.Foot()) || len(v.Foot())+len(w.Foot()) != all {
			t.Fatalf("footprints %v, %v", v.Foot(), w.Foot())
		}
		writes := slices.Concat(v.Redo(), w.Redo())
		for _, step := range []int{1, 2, 3, 7, 13, 23, 37, 54} {
			u := s.Twin()
			for i := range writes {
				x := writes[i*step%all]
				u.Put(x.Key, x.Value)
			}
			if !same(u, want) || !same(want, serial(b, a)) {
				t.Errorf("parted by %d, put in steps of %d: not the same", part, step)
			}
		}
	}
}

// Where footprints have an object in common the order may be seen: else the tests above would tell nothing.
func TestP8_4NotApart(t *testing.T) {
	x := k(api.KProc, 1)
	a, b := mix(100, keys(x), keys(x)), mix(200, keys(first()), keys(x))
	if same(serial(a, b), serial(b, a)) {
		t.Error("deeds with an object in common tell no order")
	}
}
