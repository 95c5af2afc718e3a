package space_test

import (
	"math"
	"testing"

	"cloister/space"
	"cloister/store"
)

// cut is what stands ahead of a place, if there is so much.
func cut(text string, at int) string {
	if len(text) > at {
		return text[:at]
	}
	return text
}

// All numbers of pages, and one more, of all that there may be, and of more: the last go, in order, and are on their
// way, beside those that were; none is free by that.
func TestP16_3TheLast(t *testing.T) {
	for had := range 12 {
		s := full(1)
		l := []int{5, 63, 2, 33, 0, 40, 12, 13, 1, 62, 61, 60}[:had]
		write(s, process(6), raw(l...))
		write(s, memory(6), ink(had*pageLen))
		s.Put(pool(), words(s, word(3, 4), word(50, 51)))
		for n := range had + 1 {
			v := store.Look(s)
			stay, gone := l[:had-n], l[had-n:]
			wantShrink(t, v, 6, gone...)
			wantRedo(t, v, put(pool(), words(s, word(3, 4), word(50, 51)|word(gone...))), put(process(6), has(s, process(6), raw(stay...))), put(memory(6), has(s, memory(6), ink(len(stay)*pageLen))))
			wantPages(t, v, 6, stay...)
			wantFree(t, v, 2)
			wantNoShrink(t, v, 6, len(stay)+1)
		}
		v := store.Look(s)
		wantNoShrink(t, v, 6, had+1)
		wantNoShrink(t, v, 6, had+2)
		wantRedo(t, v)
	}
}

// One by one, two by two, and so on, down to none: from each process, which then has neither pages nor bytes.
func TestP16_3AllGo(t *testing.T) {
	for step := 1; step <= maxSize; step++ {
		s := full(maxSize)
		v := store.Look(s)
		away := 0
		for _, p := range all() {
			for left := maxSize; left > 0; left -= min(step, left) {
				n := min(step, left)
				wantShrink(t, v, p, from(8*p+left-n, n)...)
				wantPages(t, v, p, from(8*p, left-n)...)
				wantMem(t, v, p, ink((left-n)*pageLen))
				away |= word(from(8*p+left-n, n)...)
			}
			wantNoShrink(t, v, p, 1)
			wantShrink(t, v, p)
			wantHas(t, v, process(p), has(s, process(p), ""))
			wantHas(t, v, memory(p), has(s, memory(p), ""))
			wantHas(t, v, pool(), words(s, s.Get(pool()).N[0], away))
		}
		wantFree(t, v, 16)
	}
}

// What stays of the memory is cut where its pages end, if it has so many bytes; numbers stay.
func TestP16_3TheMemory(t *testing.T) {
	for had := range maxSize + 3 {
		for length := range 10 * pageLen {
			s := full(0)
			p := length % maxProcs
			l := from(30, had)
			write(s, process(p), raw(l...))
			write(s, memory(p), ink(length))
			for n := range had + 1 {
				v := store.Look(s)
				wantShrink(t, v, p, l[had-n:]...)
				wantRedo(t, v, put(pool(), words(s, -1, word(l[had-n:]...))), put(process(p), has(s, process(p), raw(l[:had-n]...))), put(memory(p), has(s, memory(p), cut(ink(length), (had-n)*pageLen))))
			}
		}
	}
}

// A number below 0, and one above its pages, is refused, however many others have.
func TestP16_3WrongNumbers(t *testing.T) {
	for had := range maxSize + 1 {
		s := full(maxSize)
		for _, p := range all() {
			write(s, process(p), raw(from(8*p, had)...))
			for _, n := range append([]int{-1, -2, -6, -7, -64, had + 1, had + 2, 7, 8, 64, 256 + had}, far()...) {
				v := store.Look(s)
				wantNoShrink(t, v, p, n)
				wantRedo(t, v)
			}
			write(s, process(p), raw(from(8*p, maxSize)...))
		}
	}
}

func TestP16_3StrangersDoNotShrink(t *testing.T) {
	for _, p := range strangers() {
		for _, n := range append([]int{-1, 0, 1, 6}, far()...) {
			v := store.Look(full(3))
			wantNoShrink(t, v, p, n)
			wantRedo(t, v)
		}
	}
}

// Pages that stand there twice, that bytes above the last page tell, or that are free or on their way already: they go
// as they stand, and those that stay are the bytes they were.
func TestP16_3AnyObjects(t *testing.T) {
	for _, state := range []int{alive, zombie, 3, -1, math.MaxInt, math.MinInt} {
		s := full(0)
		set(s, process(2), 0, state)
		write(s, process(2), "\xff\x07\x07\x40\xbf\x47")
		s.Put(pool(), words(s, word(7, 20), word(63, 21)))
		v := store.Look(s)
		wantShrink(t, v, 2, 63, 7)
		wantHas(t, v, process(2), has(s, process(2), "\xff\x07\x07\x40"))
		wantHas(t, v, pool(), words(s, word(7, 20), word(63, 21, 7)))
		wantShrink(t, v, 2, 7, 7, 0)
		wantHas(t, v, process(2), has(s, process(2), "\xff"))
		wantHas(t, v, pool(), words(s, word(7, 20), word(63, 21, 7, 0)))
		wantShrink(t, v, 2, 63)
		wantHas(t, v, process(2), has(s, process(2), ""))
	}
	s := full(2)
	set(s, process(3), 0, 0)
	v := store.Look(s)
	wantNoShrink(t, v, 3, 1)
	wantNoShrink(t, v, 3, 0)
	wantRedo(t, v)
}

// Two that grow and shrink by turns: what one lets go of the other has, but only when it is back; bytes of the one are
// never the other's.
func TestP16_3ByTurns(t *testing.T) {
	v := store.Look(some(2, word(0, 1, 2), 0))
	for i := range 10 {
		p, q := i%2, 1-i%2
		wantGrow(t, v, p, 3, true)
		wantMem(t, v, p, noughts(3*pageLen))
		x := v.Get(memory(p))
		x.S = ink(3 * pageLen)
		v.Put(memory(p), x)
		wantGrow(t, v, q, 1, false)
		wantShrink(t, v, p, 1, 2)
		wantMem(t, v, p, ink(pageLen))
		wantGrow(t, v, q, 1, false)
		space.Back(v, []int{2})
		wantGrow(t, v, q, 2, false)
		wantGrow(t, v, q, 1, true)
		wantPages(t, v, q, 2)
		wantMem(t, v, q, noughts(pageLen))
		space.Back(v, []int{1, 2})
		wantGrow(t, v, p, 1, true)
		wantPages(t, v, p, 0, 1)
		wantMem(t, v, p, ink(pageLen)+noughts(pageLen))
		wantShrink(t, v, q, 2)
		wantShrink(t, v, p, 0, 1)
		wantMem(t, v, p, "")
		space.Back(v, []int{2, 0, 1})
		wantFree(t, v, 3)
	}
}
