package space_test

import (
	"math"
	"testing"

	"cloister/api"
	"cloister/space"
	"cloister/store"
)

// least are the n least of these pages' bits, and the word without them.
func least(free, n int) ([]int, int) {
	var l []int
	for g := 0; len(l) < n; g++ {
		if free>>g&1 == 1 {
			l = append(l, g)
			free -= 1 << g
		}
	}
	return l, free
}

// Every pool of ten pages, at its beginning, in the midst and at its end: the least are had, with gaps between; what is
// behind them stays free.
func TestP16_2TheLeast(t *testing.T) {
	s := some(1, 0, 0)
	for low := range 1 << 10 {
		for _, at := range []uint{0, 27, 54} {
			free := low << at
			s.Put(pool(), words(s, free, 0))
			many := space.Free(store.Look(s))
			for n := range maxSize + 1 {
				v := store.Look(s)
				if n > many {
					wantGrow(t, v, 0, n, false)
					wantRedo(t, v)
					continue
				}
				l, left := least(free, n)
				wantGrow(t, v, 0, n, true)
				wantRedo(t, v, put(pool(), words(s, left, 0)), put(process(0), has(s, process(0), raw(l...))), put(memory(0), api.Value{S: noughts(n * pageLen)}))
			}
		}
	}
}

// New pages stand behind those that it had, whatever their numbers.
func TestP16_2BehindThoseItHad(t *testing.T) {
	s := some(2, word(0, 2, 3, 60, 63), 0)
	write(s, process(1), raw(1, 40))
	write(s, memory(1), ink(2*pageLen))
	v := store.Look(s)
	wantGrow(t, v, 1, 1, true)
	wantPages(t, v, 1, 1, 40, 0)
	wantGrow(t, v, 1, 2, true)
	wantPages(t, v, 1, 1, 40, 0, 2, 3)
	wantGrow(t, v, 0, 2, true)
	wantPages(t, v, 0, 60, 63)
	wantPages(t, v, 1, 1, 40, 0, 2, 3)
	wantMem(t, v, 1, ink(2*pageLen)+noughts(3*pageLen))
	wantMem(t, v, 0, noughts(2*pageLen))
	wantFree(t, v, 0)
	wantGrow(t, v, 1, 1, false)
	wantGrow(t, v, 1, 0, true)
	wantGrow(t, v, 0, 1, false)
}

// As many as it may have, and one more, for all numbers of pages that it may have had; one that has too many doesn't
// even grow by none.
func TestP16_2MaxSize(t *testing.T) {
	for had := range 2*maxSize + 1 {
		for n := range 2*maxSize + 1 {
			for _, p := range all() {
				s := some(maxProcs, -1, 0)
				write(s, process(p), raw(from(64, had)...))
				write(s, memory(p), ink(had*pageLen))
				v := store.Look(s)
				wantGrow(t, v, p, n, had+n <= maxSize)
				if had+n > maxSize {
					wantRedo(t, v)
					continue
				}
				wantHas(t, v, process(p), has(s, process(p), raw(from(64, had)...)+raw(from(0, n)...)))
				wantMem(t, v, p, ink(had*pageLen)+noughts(n*pageLen))
				wantFree(t, v, 64-n)
			}
		}
	}
}

// As many as are free, and one more: none is had then.
func TestP16_2AsManyAsAreFree(t *testing.T) {
	for _, g := range []int{0, 1, 30, 57} {
		for many := range maxSize {
			s := some(2, word(from(g, many)...), word(50, 51))
			v := store.Look(s)
			wantGrow(t, v, 1, many+1, false)
			wantGrow(t, v, 1, maxSize, false)
			wantRedo(t, v)
			wantGrow(t, v, 1, many, true)
			wantPages(t, v, 1, from(g, many)...)
			wantHas(t, v, pool(), words(s, 0, word(50, 51)))
			wantGrow(t, v, 0, 1, false)
			wantGrow(t, v, 0, 0, true)
			wantPages(t, v, 0)
		}
	}
}

// A number below 0, and one above all there may be, is refused, whatever is free.
func TestP16_2WrongNumbers(t *testing.T) {
	for had := range maxSize + 1 {
		s := full(had)
		for _, n := range append([]int{-1, -2, -6, -7, -58, -64, 7, 8, 58, 64, 65}, far()...) {
			for _, p := range all() {
				v := store.Look(s)
				wantGrow(t, v, p, n, false)
				wantRedo(t, v)
			}
		}
	}
}

func TestP16_2StrangersDoNotGrow(t *testing.T) {
	for _, p := range strangers() {
		for _, n := range append([]int{-1, 0, 1, 6}, far()...) {
			v := store.Look(full(2))
			wantGrow(t, v, p, n, false)
			wantRedo(t, v)
		}
	}
}

// A pool with all pages, page by page, six a process; the last page is had with the others ahead of it.
func TestP16_2AllPages(t *testing.T) {
	s := some(maxProcs, -1, 0)
	v := store.Look(s)
	for _, p := range all() {
		for i := range maxSize {
			wantFree(t, v, 64-6*p-i)
			wantGrow(t, v, p, 1, true)
			wantPages(t, v, p, from(6*p, i+1)...)
		}
		wantGrow(t, v, p, 1, false)
	}
	wantFree(t, v, 16)
	wantHas(t, v, pool(), words(s, -1<<48, 0))
	for _, p := range all() {
		wantPages(t, v, p, from(6*p, 6)...)
		wantMem(t, v, p, noughts(6*pageLen))
	}
	for g := range maxPages {
		v := store.Look(some(1, word(g), 0))
		wantGrow(t, v, 0, 2, false)
		wantGrow(t, v, 0, 1, true)
		wantPages(t, v, 0, g)
		wantFree(t, v, 0)
	}
	v = store.Look(some(1, word(63, 62), 0))
	wantGrow(t, v, 0, 2, true)
	wantPages(t, v, 0, 62, 63)
	wantHas(t, v, pool(), zero)
}

// What is on its way isn't had; what is free, too, is had, and is still on its way.
func TestP16_2OnTheWay(t *testing.T) {
	s := some(1, word(3), word(0, 1, 2, 63))
	v := store.Look(s)
	wantGrow(t, v, 0, 2, false)
	wantGrow(t, v, 0, 1, true)
	wantPages(t, v, 0, 3)
	wantHas(t, v, pool(), words(s, 0, word(0, 1, 2, 63)))
	s = some(1, word(1, 3), word(0, 1, 2))
	v = store.Look(s)
	wantGrow(t, v, 0, 2, true)
	wantPages(t, v, 0, 1, 3)
	wantHas(t, v, pool(), words(s, 0, word(0, 1, 2)))
}

// New noughts stand behind all bytes that there are, however many its pages ask; what stood there stays, and so do all
// numbers.
func TestP16_2TheMemory(t *testing.T) {
	for had := range maxSize + 1 {
		for length := range 8 * pageLen {
			s := full(had)
			p := length % maxProcs
			write(s, memory(p), ink(length))
			for n := range maxSize - had + 1 {
				v := store.Look(s)
				l, left := least(s.Get(pool()).N[0], n)
				wantGrow(t, v, p, n, n <= space.Free(store.Look(s)))
				wantRedo(t, v, put(pool(), words(s, left, 0)), put(process(p), has(s, process(p), s.Get(process(p)).S+raw(l...))), put(memory(p), has(s, memory(p), ink(length)+noughts(n*pageLen))))
			}
		}
	}
}

// What its object has beside pages hangs on nothing: any state but 0 grows, and pages stand as the bytes they were.
func TestP16_2AnyObjects(t *testing.T) {
	for _, state := range []int{alive, zombie, 3, -1, 1 << 32, math.MaxInt, math.MinInt} {
		for _, text := range []string{"\xff", "\x40\x40", "\x80\x00\xc0", "aaaaa"} {
			s := full(0)
			set(s, process(3), 0, state)
			write(s, process(3), text)
			v := store.Look(s)
			wantGrow(t, v, 3, 1, true)
			wantHas(t, v, process(3), has(s, process(3), text+"\x00"))
			wantHas(t, v, pool(), words(s, -2, 0))
		}
	}
	s := full(2)
	set(s, process(3), 0, 0)
	v := store.Look(s)
	wantGrow(t, v, 3, 1, false)
	wantGrow(t, v, 3, 0, false)
	wantRedo(t, v)
}
