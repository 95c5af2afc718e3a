package space_test

import (
	"math"
	"slices"
	"strings"
	"testing"

	"cloister/api"
	"cloister/key"
	"cloister/space"
	"cloister/store"
)

// The limits and the states, by hand: the tests hold the package against these.
const (
	maxProcs = 8
	maxSize  = 6
	maxPages = 64
	pageLen  = 16

	alive  = 1
	zombie = 2
)

var zero = api.Value{}

func pool() api.Key { return api.Key{Kind: api.KPool} }

func table() api.Key { return api.Key{Kind: api.KProcs} }

func process(p int) api.Key { return api.Key{Kind: api.KProc, N: p} }

func memory(p int) api.Key { return api.Key{Kind: api.KMem, N: p} }

func keys(l ...api.Key) []api.Key { return l }

// own are the objects of which Grow and Shrink ask, with the pool and without it.
func own(p int) []api.Key { return keys(table(), process(p), memory(p)) }

func whole(p int) []api.Key { return keys(pool(), table(), process(p), memory(p)) }

// word has the bits of these pages.
func word(l ...int) int {
	n := 0
	for _, g := range l {
		n |= 1 << g
	}
	return n
}

// raw are these pages as bytes.
func raw(l ...int) string {
	var b []byte
	for _, g := range l {
		b = append(b, byte(g))
	}
	return string(b)
}

func noughts(n int) string { return string(make([]byte, n)) }

// ink are n bytes, none of them nought, and each another one than that of most other places.
func ink(n int) string {
	b := make([]byte, n)
	for i := range b {
		b[i] = byte(1 + i*7%255)
	}
	return string(b)
}

// from are n pages, each one above the one ahead.
func from(g, n int) []int {
	var l []int
	for i := range n {
		l = append(l, g+i)
	}
	return l
}

func put(k api.Key, x api.Value) api.Write { return api.Write{Key: k, Value: x} }

// with puts these into the store.
func with(s *store.Store, l ...api.Write) *store.Store {
	for _, w := range l {
		s.Put(w.Key, w.Value)
	}
	return s
}

// set puts what the object has into the store, but for one number.
func set(s *store.Store, k api.Key, at, n int) {
	x := s.Get(k)
	x.N[at] = n
	s.Put(k, x)
}

// write puts what the object has into the store, but for its text.
func write(s *store.Store, k api.Key, text string) {
	x := s.Get(k)
	x.S = text
	s.Put(k, x)
}

// has is what the object has, but for its text.
func has(s *store.Store, k api.Key, text string) api.Value {
	x := s.Get(k)
	x.S = text
	return x
}

// words is what the pool has, but for its words.
func words(s *store.Store, free, away int) api.Value {
	x := s.Get(pool())
	x.N[0], x.N[1] = free, away
	return x
}

// all are the processes there may be.
func all() []int { return from(0, maxProcs) }

// far are numbers far from every process, page and size; some of them are near to one if bits of them are lost.
func far() []int {
	return []int{
		999, 256, 1 << 16, 1<<16 + 1, 1<<31 - 1, 1 << 31, 1 << 32, 1<<32 + 1, 1<<32 + 3, 1 << 60, 1<<60 + 1, 1 << 62, math.MaxInt - 1, math.MaxInt,
		-999, -256, -1 << 16, -1<<16 + 1, -1 << 31, -1<<32 + 1, -1 << 32, -1 << 60, -1<<60 + 1, -1 << 62, math.MinInt, math.MinInt + 1,
	}
}

// strangers are no processes, whatever the objects have.
func strangers() []int {
	return append([]int{8, 9, 10, 15, 16, 31, 32, 63, 64, 65, 71, 72, 128, -1, -2, -7, -8, -9, -57, -63, -64}, far()...)
}

// noPages are no pages; some of them are one if they go round.
func noPages() []int {
	return append([]int{64, 65, 66, 67, 127, 128, 129, 255, -1, -2, -3, -61, -62, -63, -64, -65, -128}, far()...)
}

func row() []api.Key {
	var l []api.Key
	for place := range key.All() {
		k, _ := key.At(place)
		l = append(l, k)
	}
	return l
}

// full is a store in which every object has numbers at all places, and bytes, of its own. All processes are used, and
// process p has n pages, from page 8p on; the others are free.
func full(n int) *store.Store {
	s := store.New()
	for place, k := range row() {
		x := api.Value{S: strings.Repeat(string(rune('a'+place)), 3+place%9)}
		for i := range x.N {
			x.N[i] = 100*place + i + 3
		}
		s.Put(k, x)
	}
	set(s, table(), 0, 255)
	free := -1
	for _, p := range all() {
		write(s, process(p), raw(from(8*p, n)...))
		write(s, memory(p), ink(n*pageLen))
		free &^= word(from(8*p, n)...)
	}
	s.Put(pool(), words(s, free, 0))
	return s
}

// some is a store with as many processes that have no pages yet, and a pool with these words.
func some(processes, free, away int) *store.Store {
	s := store.New()
	set(s, table(), 0, 1<<processes-1)
	for p := range processes {
		set(s, process(p), 0, alive)
	}
	s.Put(pool(), words(s, free, away))
	return s
}

// lay puts what was written through the view into the store.
func lay(s *store.Store, v *store.View) { with(s, v.Redo()...) }

func wantGrow(t *testing.T, v *store.View, p, n int, want bool) {
	t.Helper()
	if got := space.Grow(v, p, n); got != want {
		t.Errorf("Grow(%d, %d): %v", p, n, got)
	}
}

// wantShrink wants that p shrinks by these pages.
func wantShrink(t *testing.T, v *store.View, p int, want ...int) {
	t.Helper()
	if got, ok := space.Shrink(v, p, len(want)); !ok || !slices.Equal(got, want) {
		t.Errorf("Shrink(%d, %d): %v, %v, not %v", p, len(want), got, ok, want)
	}
}

// wantNoShrink wants that p doesn't shrink by n.
func wantNoShrink(t *testing.T, v *store.View, p, n int) {
	t.Helper()
	if got, ok := space.Shrink(v, p, n); ok || len(got) > 0 {
		t.Errorf("Shrink(%d, %d): %v, %v", p, n, got, ok)
	}
}

func wantPages(t *testing.T, v *store.View, p int, want ...int) {
	t.Helper()
	if got := space.Pages(v, p); !slices.Equal(got, want) {
		t.Errorf("Pages(%d): %v, not %v", p, got, want)
	}
}

func wantFree(t *testing.T, v *store.View, want int) {
	t.Helper()
	if got := space.Free(v); got != want {
		t.Errorf("Free: %d, not %d", got, want)
	}
}

// wantNone wants that all calls tell that p is no process.
func wantNone(t *testing.T, v *store.View, p int) {
	t.Helper()
	wantPages(t, v, p)
	for _, n := range []int{-1, 0, 1, 6, 7} {
		wantGrow(t, v, p, n, false)
		wantNoShrink(t, v, p, n)
	}
}

// wantHas wants that the object, seen through the view, has x and nothing else.
func wantHas(t *testing.T, v *store.View, k api.Key, x api.Value) {
	t.Helper()
	if got := v.Get(k); got != x {
		t.Errorf("object %v has %v, not %v", k, got, x)
	}
}

// wantMem wants that p's memory has these bytes.
func wantMem(t *testing.T, v *store.View, p int, want string) {
	t.Helper()
	if got := v.Get(memory(p)).S; got != want {
		t.Errorf("memory of %d: %q, not %q", p, got, want)
	}
}

// wantRedo wants that these objects were written, and no other.
func wantRedo(t *testing.T, v *store.View, redo ...api.Write) {
	t.Helper()
	if got := v.Redo(); !slices.Equal(got, redo) {
		t.Errorf("written %v, not %v", got, redo)
	}
}

func TestLimits(t *testing.T) {
	got := [...]int{api.MaxProcs, api.MaxSize, api.MaxPages, api.PageLen, api.PAlive, api.PZombie}
	if want := [...]int{maxProcs, maxSize, maxPages, pageLen, alive, zombie}; got != want {
		t.Error(got)
	}
}

// The chapter's runs: p is process 0, q is process 1.
func TestRuns(t *testing.T) {
	v := store.Look(some(2, word(0, 1, 2, 3), 0))
	wantFree(t, v, 4)
	wantGrow(t, v, 0, 2, true)
	wantPages(t, v, 0, 0, 1)
	wantGrow(t, v, 1, 1, true)
	wantPages(t, v, 1, 2)
	wantShrink(t, v, 0, 1)
	wantPages(t, v, 0, 0)
	wantFree(t, v, 1)
	space.Back(v, []int{1})
	wantFree(t, v, 2)
	wantGrow(t, v, 1, 2, true)
	wantPages(t, v, 1, 2, 1, 3)
	wantFree(t, v, 0)
	wantMem(t, v, 0, noughts(pageLen))
	wantMem(t, v, 1, noughts(3*pageLen))
}

// Each byte is a page: above the last one they begin anew.
func TestP16_1EveryByte(t *testing.T) {
	for _, p := range all() {
		s := some(maxProcs, 0, 0)
		var each []int
		for b := range 256 {
			write(s, process(p), raw(b))
			wantPages(t, store.Look(s), p, b%64)
			write(s, process(p), raw(5, b, 70))
			wantPages(t, store.Look(s), p, 5, b%64, 6)
			each = append(each, b)
		}
		write(s, process(p), raw(each...))
		round := slices.Concat(from(0, 64), from(0, 64), from(0, 64), from(0, 64))
		wantPages(t, store.Look(s), p, round...)
	}
}

// Pages are told as they stand, not by their numbers, and each as often as it stands there.
func TestP16_1InOrder(t *testing.T) {
	for _, l := range [][]int{{}, {0}, {63}, {5, 4}, {4, 5}, {63, 0, 62, 1}, {7, 7}, {9, 1, 9}, {1, 2, 3, 4, 5, 6, 7, 8, 9}, {3, 1, 2, 0, 63, 33}} {
		for _, p := range all() {
			s := some(maxProcs, -1, -1)
			write(s, process(p), raw(l...))
			v := store.Look(s)
			wantPages(t, v, p, l...)
			for _, other := range all() {
				if other != p {
					wantPages(t, v, other)
				}
			}
		}
	}
}

// A page of a process is one of the bytes of its object: no number, no other text, and not its memory, is asked.
func TestP16_1WhereTheyStand(t *testing.T) {
	for n := range maxSize + 1 {
		s := full(n)
		for _, p := range all() {
			for _, mem := range []string{"", ink(3), ink(200)} {
				write(s, memory(p), mem)
				wantPages(t, store.Look(s), p, from(8*p, n)...)
			}
			s.Put(process(p), api.Value{N: [16]int{alive}, S: raw(9, 8)})
			wantPages(t, store.Look(s), p, 9, 8)
		}
		wantFree(t, store.Look(s), 64-8*n)
	}
}

// Whoever is none has no pages, whatever its object has; with any state but 0 it has them.
func TestP16_1NoneHasPages(t *testing.T) {
	for _, p := range all() {
		s := full(3)
		set(s, table(), 0, 255-1<<p)
		wantNone(t, store.Look(s), p)
		set(s, table(), 0, 255)
		set(s, process(p), 0, 0)
		v := store.Look(s)
		wantNone(t, v, p)
		wantRedo(t, v)
		for _, state := range []int{alive, zombie, 3, -1, 1 << 32, math.MaxInt, math.MinInt} {
			set(s, process(p), 0, state)
			wantPages(t, store.Look(s), p, 8*p, 8*p+1, 8*p+2)
		}
	}
	for _, used := range []int{255, -1, math.MinInt} {
		s := full(3)
		set(s, table(), 0, used)
		v := store.Look(s)
		for _, p := range strangers() {
			wantNone(t, v, p)
		}
		wantRedo(t, v)
	}
}

// Each bit of the pool's first word is a page that is free; the second word, and all else, isn't counted.
func TestP16_1Free(t *testing.T) {
	s := full(0)
	for low := range 1 << 10 {
		want := 0
		for g := range 10 {
			want += low >> g % 2
		}
		for _, away := range []int{0, -1, low, 1} {
			for _, at := range []uint{0, 1, 27, 53, 54} {
				s.Put(pool(), words(s, low<<at, away))
				wantFree(t, store.Look(s), want)
				s.Put(pool(), words(s, ^(low<<at), away))
				wantFree(t, store.Look(s), 64-want)
			}
		}
	}
	for g := range maxPages {
		s.Put(pool(), words(s, word(g), 0))
		wantFree(t, store.Look(s), 1)
	}
	wantFree(t, store.Look(store.New()), 0)
	for _, x := range []struct{ free, want int }{{-1, 64}, {0, 0}, {math.MinInt, 1}, {math.MaxInt, 63}, {-2, 63}} {
		s.Put(pool(), words(s, x.free, 7))
		wantFree(t, store.Look(s), x.want)
	}
}

// What Pages and Shrink tell is nobody else's: whoever changes it changes nothing.
func TestP16_1AnswersAreTheirOwn(t *testing.T) {
	s := some(2, 0, 0)
	write(s, process(0), raw(1, 2, 3))
	write(s, process(1), raw(4, 5, 6))
	v := store.Look(s)
	a, b := space.Pages(v, 0), space.Pages(v, 0)
	gone, _ := space.Shrink(v, 1, 2)
	spoil(a)
	if !slices.Equal(b, []int{1, 2, 3}) || !slices.Equal(gone, []int{5, 6}) {
		t.Error(b, gone)
	}
	spoil(b)
	spoil(gone)
	wantPages(t, v, 0, 1, 2, 3)
	wantPages(t, v, 1, 4)
	wantHas(t, v, pool(), words(s, 0, word(5, 6)))
	wantShrink(t, v, 0, 1, 2, 3)
	wantShrink(t, v, 1, 4)
}

// spoil lets a list have other numbers, its spare room included.
func spoil(l []int) {
	l = l[:cap(l)]
	for i := range l {
		l[i] = 50
	}
}
