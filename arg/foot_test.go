package arg_test

import (
	"math"
	"slices"
	"testing"

	"cloister/api"
	"cloister/arg"
	"cloister/store"
)

// deed does one call, or some.
type deed func(v *store.View)

// wantFoot does the deed through a new view of s, and wants what was read, what was written with its values, and that
// s is as it was.
func wantFoot(t *testing.T, what string, s *store.Store, d deed, read []api.Key, redo ...api.Write) {
	t.Helper()
	was, v := s.Twin(), store.Look(s)
	d(v)
	if got := v.Reads(); !slices.Equal(got, read) {
		t.Errorf("%s: read %v, not %v", what, got, read)
	}
	if got := v.Redo(); !slices.Equal(got, redo) {
		t.Errorf("%s: written %v, not %v", what, got, redo)
	}
	for _, k := range row() {
		if s.Get(k) != was.Get(k) {
			t.Errorf("%s: the store's %v has changed", what, k)
		}
	}
}

func texts(p, addr, most int) deed { return func(v *store.View) { arg.Text(v, p, addr, most) } }

func bytes(p, addr, n int) deed { return func(v *store.View) { arg.Bytes(v, p, addr, n) } }

func puts(p, addr int, d string) deed { return func(v *store.View) { arg.Put(v, p, addr, d) } }

// places are numbers about a memory of this size, and far from it.
func places(size int) []int {
	return append([]int{-2, -1, 0, 1, 2, size - 1, size, size + 1, size + 2, math.MinInt, math.MaxInt, 1 << 32, -1 << 32}, size/2)
}

// Bytes and Text read the memory, and nothing else, whatever they answer; they write nothing.
func TestP17_1AskingReadsTheMemoryAlone(t *testing.T) {
	for i, size := range []int{0, 1, 16, 33, 96} {
		for _, mem := range []string{ink(size), noughts(size), mixed(size, 3)} {
			p := i % maxProcs
			s := full()
			write(s, memory(p), mem)
			for _, addr := range places(size) {
				for _, n := range places(size) {
					wantFoot(t, "Bytes", s, bytes(p, addr, n), keys(memory(p)))
					wantFoot(t, "Text", s, texts(p, addr, n), keys(memory(p)))
				}
			}
		}
	}
}

// A Put that is refused reads the memory as well, and writes nothing.
func TestP17_3RefusedPuts(t *testing.T) {
	for i, size := range []int{0, 1, 16, 33, 96} {
		p := i % maxProcs
		s := full()
		write(s, memory(p), ink(size))
		for _, addr := range []int{-1, -16, -size - 1, size + 1, size + 16, math.MinInt, math.MaxInt, 1 << 32, -1 << 32} {
			for _, d := range []string{"", "x", ink(16), ink(size)} {
				wantFoot(t, "Put at what is no place", s, puts(p, addr, d), keys(memory(p)))
			}
		}
		for addr := range size + 1 {
			wantFoot(t, "Put without room", s, puts(p, addr, ink(size-addr+1)), keys(memory(p)))
			wantFoot(t, "Put of more than all", s, puts(p, addr, ink(size+1)), keys(memory(p)))
		}
	}
}

// A Put reads and writes the memory, even if it puts nothing, or what was there; its numbers stay.
func TestP17_3Puts(t *testing.T) {
	for i, size := range []int{0, 1, 16, 33, 96} {
		p := i % maxProcs
		s := full()
		write(s, memory(p), ink(size))
		for addr := range size + 1 {
			same := put(memory(p), s.Get(memory(p)))
			wantFoot(t, "Put of nothing", s, puts(p, addr, ""), keys(memory(p)), same)
			wantFoot(t, "Put of what is there", s, puts(p, addr, ink(size)[addr:]), keys(memory(p)), same)
			text := noughts(size - addr)
			wantFoot(t, "Put up to the end", s, puts(p, addr, text), keys(memory(p)), put(memory(p), has(s, memory(p), over(ink(size), addr, text))))
		}
	}
}

// Of who is no process there isn't an object: nothing is read or written, even if a Put of nothing is true.
func TestStrangersTouchNothing(t *testing.T) {
	s := full(ink(40), noughts(40))
	for _, p := range strangers() {
		for _, addr := range []int{0, 1, -1, 16, math.MaxInt, math.MinInt} {
			for _, n := range []int{0, 1, -1, math.MaxInt, math.MinInt} {
				wantFoot(t, "Bytes of none", s, bytes(p, addr, n), nil)
				wantFoot(t, "Text of none", s, texts(p, addr, n), nil)
			}
			for _, d := range []string{"", "x", ink(16)} {
				wantFoot(t, "Put of none", s, puts(p, addr, d), nil)
			}
		}
	}
}

// What a view wrote is what it reads; whoever looks at the store sees nothing of it until it is put there.
func TestThroughTheView(t *testing.T) {
	s := full(noughts(16), ink(16))
	v, w := store.Look(s), store.Look(s)
	wantPut(t, v, 0, 3, "ab", true)
	wantText(t, v, 0, 3, 2, "ab")
	wantText(t, w, 0, 3, 2, "")
	wantPut(t, w, 0, 4, "cd", true)
	wantBytes(t, v, 0, 3, "ab\x00")
	wantBytes(t, w, 0, 3, "\x00cd")
	lay(s, v)
	wantBytes(t, w, 0, 3, "\x00cd")
	u := store.Look(s)
	wantText(t, u, 0, 3, 2, "ab")
	wantText(t, u, 0, 4, 2, "b")
	wantMem(t, u, 1, ink(16))
	v.Put(memory(0), api.Value{S: "short"})
	wantPut(t, v, 0, 5, "!", false)
	wantNoBytes(t, v, 0, 0, 6)
	wantBytes(t, v, 0, 0, "short")
	wantPut(t, u, 0, 15, "!", true)
	s.Put(memory(1), api.Value{S: "later"})
	wantBytes(t, u, 1, 0, "later")
	wantNoBytes(t, u, 1, 0, 6)
}
