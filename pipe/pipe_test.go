package pipe_test

import (
	"math"
	"strings"
	"testing"

	"cloister/api"
	"cloister/key"
	"cloister/pipe"
	"cloister/store"
)

// The limits, by hand: the tests hold the package against these.
const (
	maxPipes = 4
	maxPipe  = 16
)

// What the calls answer, by hand too.
const (
	done = iota
	fails
	blocks
)

var zero = api.Value{}

func table() api.Key { return api.Key{Kind: api.KPipes} }

func object(q int) api.Key { return api.Key{Kind: api.KPipe, N: q} }

func keys(l ...api.Key) []api.Key { return l }

// val is a pipe's value; bits is the table's, with the bits of these pipes.
func val(readers, writers int, bytes string) api.Value {
	return api.Value{N: [16]int{readers, writers}, S: bytes}
}

func bits(l ...int) api.Value {
	x := api.Value{}
	for _, q := range l {
		x.N[0] |= 1 << q
	}
	return x
}

// all are the pipes there may be.
func all() []int { return []int{0, 1, 2, 3} }

// others are all but one.
func others(q int) []int { return append(all()[:q], all()[q+1:]...) }

// far are numbers far from every pipe and count; some of them are near to one if bits of them are lost.
func far() []int {
	return []int{
		99, 255, 256, 257, 1 << 16, 1<<16 + 1, 1<<31 - 1, 1 << 31, 1 << 32, 1<<32 + 1, 1<<32 + 3, 1 << 62, 1<<62 + 1, math.MaxInt - 1, math.MaxInt,
		-99, -255, -256, -1 << 16, -1<<16 + 1, -1 << 31, -1<<32 + 1, -1 << 32, -1 << 62, -1<<62 + 1, math.MinInt, math.MinInt + 1,
	}
}

// strangers are no pipes, whatever the objects have. A bit shifted by 64 and more is none, or, shifted round, a pipe's.
func strangers() []int {
	return append([]int{4, 5, 6, 7, 8, 15, 16, 31, 32, 33, 62, 63, 64, 65, 67, 128, -1, -2, -3, -4, -60, -61, -63, -64}, far()...)
}

// oddTables are bits beyond the last pipe, and below nought; none of them is a pipe's.
func oddTables() []int {
	return []int{0, 16, 32, 1 << 16, 1 << 31, 1 << 32, 1 << 62, math.MinInt, -16, math.MinInt | 16, math.MaxInt &^ 15}
}

// counts are numbers of ends about 0, and some far from it.
func counts() []int {
	return []int{0, 1, 2, 3, -1, -2, -3, 1 << 32, -1 << 32, math.MaxInt, math.MaxInt - 1, math.MinInt, math.MinInt + 1}
}

// text is n bytes, no two of which within 200 are the same; some are noughts, and some are no letters.
func text(n int) string {
	b := make([]byte, n)
	for i := range b {
		b[i] = byte(37*i + i/256)
	}
	return string(b)
}

func row() []api.Key {
	var l []api.Key
	for place := range key.All() {
		k, _ := key.At(place)
		l = append(l, k)
	}
	return l
}

// full is a store in which every object has numbers at all places, and bytes, of its own; the table has these bits.
func full(used int) *store.Store {
	s := store.New()
	for place, k := range row() {
		x := api.Value{S: strings.Repeat(string(rune('a'+place)), 3+place%9)}
		for i := range x.N {
			x.N[i] = 100*place + i + 3
		}
		if k == table() {
			x.N[0] = used
		}
		s.Put(k, x)
	}
	return s
}

// lay puts what was written through the view into the store.
func lay(s *store.Store, v *store.View) {
	for _, w := range v.Redo() {
		s.Put(w.Key, w.Value)
	}
}

func wantIs(t *testing.T, v *store.View, q int, want bool) {
	t.Helper()
	if got := pipe.Is(v, q); got != want {
		t.Errorf("Is(%d): %v", q, got)
	}
}

// wantAlloc wants -1 where none is to be had.
func wantAlloc(t *testing.T, v *store.View, want int) {
	t.Helper()
	if q, ok := pipe.Alloc(v); q != max(want, 0) || ok != (want >= 0) {
		t.Errorf("Alloc: %d, %v, not %d", q, ok, want)
	}
}

func wantRead(t *testing.T, v *store.View, q, n int, want string, state int) {
	t.Helper()
	if d, got := pipe.Read(v, q, n); d != want || got != state {
		t.Errorf("Read(%d, %d): %q, %d, not %q, %d", q, n, d, got, want, state)
	}
}

func wantWrite(t *testing.T, v *store.View, q int, d string, want, state int) {
	t.Helper()
	if n, got := pipe.Write(v, q, d); n != want || got != state {
		t.Errorf("Write(%d, %q): %d, %d, not %d, %d", q, d, n, got, want, state)
	}
}

func wantEnds(t *testing.T, v *store.View, q int, writer bool, by int, want bool) {
	t.Helper()
	if got := pipe.Ends(v, q, writer, by); got != want {
		t.Errorf("Ends(%d, %v, %d): %v", q, writer, by, got)
	}
}

// wantNone wants that all calls tell that q is no pipe.
func wantNone(t *testing.T, v *store.View, q int) {
	t.Helper()
	wantIs(t, v, q, false)
	for _, n := range []int{0, 1, 9, -1, math.MaxInt, math.MinInt} {
		wantRead(t, v, q, n, "", fails)
	}
	for _, d := range []string{"", "x", text(16), text(17)} {
		wantWrite(t, v, q, d, -1, fails)
	}
	for _, by := range []int{0, 1, -1, math.MaxInt, math.MinInt} {
		wantEnds(t, v, q, true, by, false)
		wantEnds(t, v, q, false, by, false)
	}
}

// wantHas wants that the object, seen through the view, has x and nothing else.
func wantHas(t *testing.T, v *store.View, k api.Key, x api.Value) {
	t.Helper()
	if got := v.Get(k); got != x {
		t.Errorf("object %v has %v, not %v", k, got, x)
	}
}

func TestLimits(t *testing.T) {
	if api.MaxPipes != maxPipes || api.MaxPipe != maxPipe || api.Done != done || api.Fails != fails || api.Blocks != blocks {
		t.Error(api.MaxPipes, api.MaxPipe, api.Done, api.Fails, api.Blocks)
	}
}

// The chapter's runs.
func TestRuns(t *testing.T) {
	v := store.Look(store.New())
	wantAlloc(t, v, 0)
	wantWrite(t, v, 0, "abc", 3, done)
	wantRead(t, v, 0, 2, "ab", done)
	wantRead(t, v, 0, 9, "c", done)
	wantRead(t, v, 0, 1, "", blocks)
	wantEnds(t, v, 0, true, -1, true)
	wantRead(t, v, 0, 1, "", done)
	wantEnds(t, v, 0, false, -1, true)
	wantNone(t, v, 0)
	wantHas(t, v, table(), zero)
	wantHas(t, v, object(0), zero)
}

// Every table of the bits of four pipes, with bits beyond them and below nought: a bit is of its pipe alone.
func TestP13_1EveryTable(t *testing.T) {
	for _, odd := range oddTables() {
		for used := range 1 << maxPipes {
			v := store.Look(full(odd + used))
			for _, q := range all() {
				wantIs(t, v, q, used>>q%2 == 1)
				if used>>q%2 == 0 {
					wantNone(t, v, q)
				}
			}
			for _, q := range strangers() {
				wantNone(t, v, q)
			}
			if len(v.Redo()) != 0 {
				t.Errorf("table %d: written %v", odd+used, v.Redo())
			}
		}
	}
}

// The object doesn't decide: one with all that a pipe has is none without its bit, and one that is zero is one with it.
func TestP13_1TheTableAloneDecides(t *testing.T) {
	for _, q := range all() {
		for _, x := range []api.Value{zero, val(1, 1, ""), val(1, 1, "abc"), val(0, 0, text(40)), val(-1, math.MinInt, "")} {
			s := store.New()
			s.Put(object(q), x)
			wantNone(t, store.Look(s), q)
			s.Put(table(), bits(others(q)...))
			wantNone(t, store.Look(s), q)
			s.Put(table(), bits(q))
			wantIs(t, store.Look(s), q, true)
			for _, other := range others(q) {
				wantNone(t, store.Look(s), other)
			}
		}
	}
}

// The bits are the table's first number: no other number of it, no text, and no other table is asked.
func TestP13_1WhereTheBitsStand(t *testing.T) {
	s := full(0)
	x := api.Value{S: text(99)}
	for i := range x.N {
		x.N[i] = -1
	}
	for _, k := range row() {
		if k != table() {
			s.Put(k, x)
		}
	}
	x.N[0] = 0
	s.Put(table(), x)
	for _, q := range all() {
		wantNone(t, store.Look(s), q)
	}
	s = store.New()
	s.Put(table(), bits(all()...))
	for _, q := range all() {
		wantIs(t, store.Look(s), q, true)
	}
}

func TestP13_2AllInTurn(t *testing.T) {
	v := store.Look(store.New())
	for _, q := range all() {
		wantNone(t, v, q)
		wantAlloc(t, v, q)
		wantHas(t, v, table(), bits(all()[:q+1]...))
		for _, had := range all()[:q+1] {
			wantIs(t, v, had, true)
			wantHas(t, v, object(had), val(1, 1, ""))
		}
	}
	for range 3 {
		wantAlloc(t, v, -1)
		wantHas(t, v, table(), bits(all()...))
	}
	for _, q := range all() {
		wantHas(t, v, object(q), val(1, 1, ""))
	}
}

// Whatever the table has beside the bit stays; whatever the object has goes.
func TestP13_2EveryTable(t *testing.T) {
	for _, odd := range oddTables() {
		for used := range 1 << maxPipes {
			want := -1
			for _, q := range []int{3, 2, 1, 0} {
				if used>>q%2 == 0 {
					want = q
				}
			}
			s := full(odd + used)
			v := store.Look(s)
			wantAlloc(t, v, want)
			then := s.Get(table())
			if want >= 0 {
				then.N[0] += 1 << want
			}
			for _, k := range row() {
				switch {
				case k == table():
					wantHas(t, v, k, then)
				case k.Kind == api.KPipe && k.N == want:
					wantHas(t, v, k, val(1, 1, ""))
				default:
					wantHas(t, v, k, s.Get(k))
				}
			}
		}
	}
}

// end lets both ends of a pipe go.
func end(t *testing.T, v *store.View, q int) {
	t.Helper()
	wantEnds(t, v, q, true, -1, true)
	wantEnds(t, v, q, false, -1, true)
}

func TestP13_2HadAgain(t *testing.T) {
	for _, gone := range [][]int{{0}, {1}, {2}, {3}, {0, 1}, {2, 0}, {3, 1}, {1, 2}, {3, 2, 0}, {3, 2, 1, 0}} {
		v := store.Look(store.New())
		for _, q := range all() {
			wantAlloc(t, v, q)
			wantWrite(t, v, q, "left", 4, done)
		}
		for _, q := range gone {
			end(t, v, q)
			wantNone(t, v, q)
		}
		for _, q := range all() {
			if v.Get(table()).N[0]>>q%2 == 0 {
				wantAlloc(t, v, q)
				wantRead(t, v, q, 9, "", blocks)
			} else {
				wantRead(t, v, q, 9, "left", done)
			}
			wantHas(t, v, object(q), val(1, 1, ""))
		}
		wantAlloc(t, v, -1)
	}
}
