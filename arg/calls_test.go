package arg_test

import (
	"slices"
	"testing"

	"cloister/api"
	"cloister/store"
)

// plain has memories, seen through one view after the other, and what they must be: bytes, told without objects.
type plain struct {
	row []api.Key
	s   *store.Store
	v   *store.View
	mem [maxProcs][]byte
}

func newPlain(row []api.Key, mem ...string) *plain {
	g := &plain{row: row, s: full(make([]string, maxProcs)...)}
	for p, text := range mem {
		write(g.s, memory(p), text)
		g.mem[p] = []byte(text)
	}
	g.v = store.Look(g.s)
	return g
}

func (g *plain) put(t *testing.T, p, addr int, d string) {
	t.Helper()
	can := addr >= 0 && addr+len(d) <= len(g.mem[p])
	wantPut(t, g.v, p, addr, d, can)
	if can {
		copy(g.mem[p][addr:], d)
	}
}

func (g *plain) bytes(t *testing.T, p, addr, n int) {
	t.Helper()
	if addr >= 0 && n >= 0 && addr+n <= len(g.mem[p]) {
		wantBytes(t, g.v, p, addr, string(g.mem[p][addr:addr+n]))
	} else {
		wantNoBytes(t, g.v, p, addr, n)
	}
}

func (g *plain) text(t *testing.T, p, addr, most int) {
	t.Helper()
	if addr >= 0 && addr < len(g.mem[p]) {
		if n := slices.Index(g.mem[p][addr:], 0); n >= 0 && n <= most {
			wantText(t, g.v, p, addr, most, string(g.mem[p][addr:addr+n]))
			return
		}
	}
	wantNoText(t, g.v, p, addr, most)
}

// size lets p's memory have another size, as others do it.
func (g *plain) size(p, n int) {
	g.mem[p] = append(g.mem[p], make([]byte, n)...)[:n]
	g.v.Put(memory(p), api.Value{N: g.v.Get(memory(p)).N, S: string(g.mem[p])})
}

// settle puts what was done into the store, and goes on through a new view.
func (g *plain) settle() {
	lay(g.s, g.v)
	g.v = store.Look(g.s)
}

// check holds all objects against what they must be: all but memories are as they were made, and so are a memory's
// numbers.
func (g *plain) check(t *testing.T, was *store.Store) {
	t.Helper()
	for _, k := range g.row {
		x := was.Get(k)
		if k.Kind == api.KMem {
			x.S = string(g.mem[k.N])
		}
		wantHas(t, g.v, k, x)
	}
}

// How many kinds of calls are about one process.
const ownCalls = 10

// call does one call: settle, or one about one of the processes.
func (g *plain) call(t *testing.T, c int) {
	t.Helper()
	if c == 0 {
		g.settle()
		return
	}
	p := (c - 1) / ownCalls
	switch (c - 1) % ownCalls {
	case 0:
		g.put(t, p, 0, "ab")
	case 1:
		g.put(t, p, 1, "\x00")
	case 2:
		g.put(t, p, 2, "cdef")
	case 3:
		g.put(t, p, 4, "")
	case 4:
		g.bytes(t, p, 1, 3)
	case 5:
		g.bytes(t, p, 0, len(g.mem[p]))
	case 6:
		g.text(t, p, 0, 2)
	case 7:
		g.text(t, p, 2, 9)
	case 8:
		g.size(p, 3)
	case 9:
		g.size(p, 6)
	}
}

// All rows of three calls about two processes, behind some beginnings.
func TestP17_4AllShortRowsOfCalls(t *testing.T) {
	const base = 1 + 2*ownCalls
	objects := row()
	for _, mem := range [][]string{{"", ""}, {noughts(6), "xyz"}, {"qrs\x00tu", noughts(16)}} {
		was := newPlain(objects, mem...).s
		for code := range base * base * base {
			g := newPlain(objects, mem...)
			for _, c := range []int{code % base, code / base % base, code / base / base} {
				g.call(t, c)
			}
			if g.check(t, was); t.Failed() {
				t.Fatalf("memory %q, calls %d", mem, code)
			}
		}
	}
}

// Long rows of calls about all processes, with memories of up to seven pages: which, is told by a sum that goes round.
func TestP17_4LongRowsOfCalls(t *testing.T) {
	for start := range 12 {
		g := newPlain(row())
		was, n := g.s.Twin(), uint32(start)
		next := func(below int) int {
			n = n*1664525 + 1013904223
			return int(n>>8) % below
		}
		for i := range 2000 {
			p := next(maxProcs)
			size := len(g.mem[p])
			addr := next(size+3) - 1
			switch next(8) {
			case 0:
				g.size(p, next(7*pageLen))
			case 1:
				g.settle()
			case 2, 3:
				g.put(t, p, addr, mixed(next(size+3), 3))
			case 4:
				g.put(t, p, addr, ink(next(5)))
			case 5:
				g.bytes(t, p, addr, next(size+3)-1)
			default:
				g.text(t, p, addr, next(12)-1)
			}
			if i%10 == 0 {
				g.check(t, was)
			}
		}
		if g.check(t, was); t.Failed() {
			t.Fatalf("start %d", start)
		}
	}
}

// Each call about each process, of a store where all objects have something: no other object is touched by it.
func TestP17_4NoOtherIsTouched(t *testing.T) {
	for _, size := range []int{0, 1, 16, 40} {
		var mem []string
		for range maxProcs {
			mem = append(mem, mixed(size, 3))
		}
		s := full(mem...)
		for _, p := range append(all(), strangers()...) {
			for addr := -1; addr < size+2; addr += 1 + size/9 {
				for _, n := range []int{-1, 0, 1, size - addr, size} {
					for _, c := range about(p, addr, n) {
						v := store.Look(s)
						c.do(v)
						for _, k := range row() {
							if k != memory(p) {
								wantHas(t, v, k, s.Get(k))
							}
						}
					}
				}
			}
		}
	}
}

// A view that did calls about one process has nothing in common with one that did them about another: both can be put
// into the store, in whatever order.
func TestP17_4NobodyElses(t *testing.T) {
	for _, p := range all() {
		for _, q := range all() {
			if p == q {
				continue
			}
			s := full(noughts(8), noughts(8), noughts(8), noughts(8), noughts(8), noughts(8), noughts(8), noughts(8))
			v, w := store.Look(s), store.Look(s)
			wantPut(t, v, p, 2, "mine", true)
			wantPut(t, w, q, 0, "theirs", true)
			wantText(t, v, q, 0, 9, "")
			lay(s, w)
			lay(s, v)
			u := store.Look(s)
			wantMem(t, u, p, "\x00\x00mine\x00\x00")
			wantMem(t, u, q, "theirs\x00\x00")
			wantText(t, v, q, 0, 9, "theirs")
		}
	}
}
