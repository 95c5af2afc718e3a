package space_test

import (
	"math"
	"slices"
	"testing"

	"cloister/space"
	"cloister/store"
)

// wantBack gives the list back through a new view of s, and wants these words behind it, the pool written and nothing
// else, and the list as it was, its spare room included.
func wantBack(t *testing.T, s *store.Store, l []int, free, away int) {
	t.Helper()
	v := store.Look(s)
	room := append(slices.Clone(l), 63, 62, 61, 60)
	given := room[:len(l)]
	space.Back(v, given)
	wantRedo(t, v, put(pool(), words(s, free, away)))
	if !slices.Equal(room, append(slices.Clone(l), 63, 62, 61, 60)) {
		t.Errorf("the list %v is %v now", l, room)
	}
}

// Each page alone, in pools of all sorts: it is free if it was on its way, else all is as it was.
func TestP16_4EachPage(t *testing.T) {
	s := full(0)
	for g := range maxPages {
		b := word(g)
		for _, rest := range []int{0, -1, math.MinInt, math.MaxInt, 0x5555555555555555, 1} {
			free, away := rest&^b, ^rest&^b
			s.Put(pool(), words(s, free, away|b))
			wantBack(t, s, []int{g}, free|b, away)
			wantBack(t, s, []int{g, g}, free|b, away)
			s.Put(pool(), words(s, free|b, away|b))
			wantBack(t, s, []int{g}, free|b, away)
			s.Put(pool(), words(s, free|b, away))
			wantBack(t, s, []int{g}, free|b, away)
			s.Put(pool(), words(s, free, away))
			wantBack(t, s, []int{g}, free, away)
			wantBack(t, s, []int{g, g}, free, away)
		}
	}
}

// All lists of three out of the first and the last pages, and numbers that are none, in all pools of four pages.
func TestP16_4Lists(t *testing.T) {
	s := full(0)
	four := []int{0, 1, 62, 63}
	some := append([]int{-1, 64, 65, -64}, four...)
	for code := range 256 {
		free, away := 0, 0
		for i, g := range four {
			free |= code >> i & 1 << g
			away |= code >> (4 + i) & 1 << g
		}
		s.Put(pool(), words(s, free, away))
		for _, a := range some {
			for _, b := range some {
				for _, c := range some {
					given := 0
					for _, g := range four {
						if a == g || b == g || c == g {
							given |= 1 << g
						}
					}
					wantBack(t, s, []int{a, b, c}, free|away&given, away&^given)
				}
			}
		}
	}
}

// An empty list changes nothing, and the pool is written; so with one of numbers that are no pages.
func TestP16_4NoPages(t *testing.T) {
	s := full(0)
	for _, x := range [][2]int{{0, 0}, {0, -1}, {-1, -1}, {-1, 0}, {word(1, 63), word(0, 62)}, {math.MinInt, math.MaxInt}} {
		s.Put(pool(), words(s, x[0], x[1]))
		wantBack(t, s, []int{}, x[0], x[1])
		wantBack(t, s, noPages(), x[0], x[1])
		for _, g := range noPages() {
			wantBack(t, s, []int{g}, x[0], x[1])
		}
		v := store.Look(s)
		space.Back(v, nil)
		wantRedo(t, v, put(pool(), s.Get(pool())))
	}
}

// All pages at once, rising and falling, with numbers that are none between, and again and again.
func TestP16_4AllPages(t *testing.T) {
	s := full(0)
	rising := from(0, maxPages)
	falling := slices.Clone(rising)
	slices.Reverse(falling)
	for _, x := range [][2]int{{0, -1}, {-1, -1}, {word(1, 2), ^word(1, 2)}, {0, math.MinInt}, {math.MinInt, math.MaxInt}, {1, 6}} {
		s.Put(pool(), words(s, x[0], x[1]))
		wantBack(t, s, rising, x[0]|x[1], 0)
		wantBack(t, s, falling, x[0]|x[1], 0)
		wantBack(t, s, slices.Concat(noPages(), falling, rising), x[0]|x[1], 0)
	}
}

// What somebody has isn't free because it is given back: only what is on its way is.
func TestP16_4NotWhatSomebodyHas(t *testing.T) {
	s := full(4)
	v := store.Look(s)
	space.Back(v, from(0, maxPages))
	wantRedo(t, v, put(pool(), s.Get(pool())))
	wantShrink(t, v, 5, 42, 43)
	space.Back(v, from(0, maxPages))
	for _, p := range all() {
		if p != 5 {
			wantPages(t, v, p, from(8*p, 4)...)
		}
	}
	wantPages(t, v, 5, 40, 41)
	wantHas(t, v, pool(), words(s, s.Get(pool()).N[0]|word(42, 43), 0))
}

// A page is free once, however often it is told: whoever has it again keeps it.
func TestP16_4ToldTwice(t *testing.T) {
	v := store.Look(some(2, word(0), 0))
	wantGrow(t, v, 0, 1, true)
	wantShrink(t, v, 0, 0)
	space.Back(v, []int{0, 0, 0})
	wantFree(t, v, 1)
	wantGrow(t, v, 1, 1, true)
	space.Back(v, []int{0})
	wantFree(t, v, 0)
	wantGrow(t, v, 0, 1, false)
	wantPages(t, v, 1, 0)
}
