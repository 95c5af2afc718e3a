package arg_test

import (
	"testing"

	"cloister/store"
)

// At each address, bytes for which there is room stand there, and all else stays; one byte more is refused.
func TestP17_3EachPlace(t *testing.T) {
	const d = "\x00\xff"
	for i, size := range sizes() {
		p := i % maxProcs
		s := full()
		write(s, memory(p), ink(size))
		for addr := range size + 1 {
			for _, n := range []int{0, 1, 2, 3, 15, 16, 17, size - addr - 1, size - addr} {
				if n < 0 || n > size-addr {
					continue
				}
				v, text := store.Look(s), ink(n + 40)[40:]
				wantPut(t, v, p, addr, text, true)
				wantRedo(t, v, put(memory(p), has(s, memory(p), over(ink(size), addr, text))))
			}
			v := store.Look(s)
			for _, more := range []int{1, 2, 16, addr + 1} {
				wantPut(t, v, p, addr, noughts(size-addr+more), false)
			}
			wantRedo(t, v)
			if size-addr >= len(d) {
				wantPut(t, v, p, addr, d, true)
				wantMem(t, v, p, over(ink(size), addr, d))
			}
		}
	}
}

// An empty text has room at each address up to the size, and nowhere else; it is written, with what was there.
func TestP17_3Nothing(t *testing.T) {
	for i, size := range sizes() {
		p := i % maxProcs
		s := full()
		write(s, memory(p), mixed(size, 4))
		for addr := range size + 1 {
			v := store.Look(s)
			wantPut(t, v, p, addr, "", true)
			wantRedo(t, v, put(memory(p), s.Get(memory(p))))
		}
		v := store.Look(s)
		for ahead := 1; ahead < 2*pageLen; ahead++ {
			wantPut(t, v, p, size+ahead, "", false)
			wantPut(t, v, p, -ahead, "", false)
		}
		wantRedo(t, v)
	}
}

// An address below 0, or far from all, is refused, whatever is to be put.
func TestP17_3FarAddresses(t *testing.T) {
	for _, size := range []int{0, 1, 15, 16, 17, 96, 257} {
		s := full(ink(size))
		v := store.Look(s)
		for _, addr := range append([]int{-1, -2, -15, -16, -17, -size - 1, size + 1, size + 16}, far()...) {
			for _, d := range []string{"", "x", "ab", ink(15), ink(16), ink(17), ink(size), ink(size + 1), ink(999)} {
				wantPut(t, v, 0, addr, d, false)
			}
		}
		wantRedo(t, v)
		wantMem(t, v, 0, ink(size))
	}
}

// Memory without bytes has room for none.
func TestP17_3EmptyMemory(t *testing.T) {
	for _, p := range all() {
		for _, s := range []*store.Store{store.New(), full(make([]string, maxProcs)...)} {
			v := store.Look(s)
			wantPut(t, v, p, 0, "\x00", false)
			wantPut(t, v, p, 1, "", false)
			wantRedo(t, v)
			wantPut(t, v, p, 0, "", true)
			wantRedo(t, v, put(memory(p), s.Get(memory(p))))
		}
	}
}

// Each byte may be put at each place, over each of some.
func TestP17_3EveryByte(t *testing.T) {
	for _, was := range []string{noughts(5), ink(5), "\xff\xff\xff\xff\xff"} {
		for b := range 256 {
			for addr := range was {
				v := store.Look(made(b%maxProcs, was))
				wantPut(t, v, b%maxProcs, addr, one(b), true)
				wantMem(t, v, b%maxProcs, over(was, addr, one(b)))
			}
		}
	}
}

// What is put is had again, as bytes and, behind a nought, as a text, whatever is about it.
func TestP17_4WhatIsPutIsThere(t *testing.T) {
	for i, size := range sizes() {
		p := i % maxProcs
		for addr := range size + 1 {
			for n := 0; n <= size-addr; n += 1 + n/3 {
				v, text := store.Look(made(p, mixed(size, 5))), ink(n)
				wantPut(t, v, p, addr, text, true)
				wantBytes(t, v, p, addr, text)
				wantBytes(t, v, p, 0, over(mixed(size, 5), addr, text))
				if n < size-addr {
					wantPut(t, v, p, addr+n, "\x00", true)
					wantText(t, v, p, addr, n, text)
					wantNoText(t, v, p, addr, n-1)
				}
			}
		}
	}
}

// Each place has what was put there last, in whatever order puts go over one another.
func TestP17_4PutsOverOneAnother(t *testing.T) {
	puts := []struct {
		addr int
		d    string
	}{{0, "abcdef"}, {2, "\x00\x00"}, {4, "ghij"}, {1, "k"}, {7, "l"}, {0, "mnopqrst"}, {8, ""}, {3, "uv\x00"}}
	for code := range power(len(puts), 4) {
		v, want := store.Look(made(1, ink(8))), ink(8)
		for range 4 {
			x := puts[code%len(puts)]
			code /= len(puts)
			wantPut(t, v, 1, x.addr, x.d, true)
			wantPut(t, v, 1, x.addr+1, x.d+ink(8), false)
			want = over(want, x.addr, x.d)
			wantMem(t, v, 1, want)
		}
	}
}
