package arg_test

import (
	"math"
	"slices"
	"testing"

	"cloister/api"
	"cloister/arg"
	"cloister/key"
	"cloister/store"
)

// Kinds of calls.
const (
	bytesCall = iota
	textCall
	putCall
)

// call is one call, with the fields that its kind takes; n is a number of bytes, or a most.
type call struct {
	kind, p, addr, n int
	d                string
}

type answer struct {
	text string
	ok   bool
}

func (c call) do(v *store.View) answer {
	var a answer
	switch c.kind {
	case bytesCall:
		a.text, a.ok = arg.Bytes(v, c.p, c.addr, c.n)
	case textCall:
		a.text, a.ok = arg.Text(v, c.p, c.addr, c.n)
	case putCall:
		a.ok = arg.Put(v, c.p, c.addr, c.d)
	}
	return a
}

// telling is what a call of a store must answer, read and write: told from the memory's bytes, going along them one by
// one, so that no number is added to another.
type telling struct {
	s      *store.Store
	read   []api.Key
	redo   []api.Write
	answer answer
}

// rest are the bytes from addr on, and whether addr is one of theirs, or just behind them.
func rest(mem string, addr int) ([]byte, bool) {
	l := []byte(mem)
	for at := range len(mem) + 1 {
		if at == addr {
			return l, true
		}
		l = l[min(1, len(l)):]
	}
	return nil, false
}

func (g *telling) tell(c call) {
	if !slices.Contains(all(), c.p) {
		is := c.addr == 0 && c.kind != textCall
		g.answer.ok = is && (c.kind == bytesCall && c.n == 0 || c.kind == putCall && c.d == "")
		return
	}
	g.read = keys(memory(c.p))
	x := g.s.Get(memory(c.p))
	l, is := rest(x.S, c.addr)
	if !is {
		return
	}
	switch c.kind {
	case bytesCall:
		g.bytes(l, c.n)
	case textCall:
		g.text(l, c.n)
	case putCall:
		g.put(c, x, len(x.S)-len(l))
	}
}

func (g *telling) bytes(l []byte, n int) {
	for had := range len(l) + 1 {
		if had == n {
			g.answer = answer{string(l[:had]), true}
		}
	}
}

func (g *telling) text(l []byte, most int) {
	for i, b := range l {
		if b == 0 {
			if i <= most {
				g.answer = answer{string(l[:i]), true}
			}
			return
		}
	}
}

func (g *telling) put(c call, x api.Value, at int) {
	mem := []byte(x.S)
	for i := range len(c.d) {
		if at+i >= len(mem) {
			return
		}
		mem[at+i] = c.d[i]
	}
	x.S = string(mem)
	g.redo = append(g.redo, put(memory(c.p), x))
	g.answer.ok = true
}

// wantTold does the call through a new view of s, and wants what is told of it.
func wantTold(t *testing.T, s *store.Store, c call) {
	t.Helper()
	g := telling{s: s}
	g.tell(c)
	v := store.Look(s)
	if got := c.do(v); got != g.answer {
		t.Errorf("%v: %v, not %v", c, got, g.answer)
	}
	if got, want := v.Reads(), key.Sort(g.read); !slices.Equal(got, want) {
		t.Errorf("%v: read %v, not %v", c, got, want)
	}
	if got := v.Redo(); !slices.Equal(got, g.redo) {
		t.Errorf("%v: written %v, not %v", c, got, g.redo)
	}
	if t.Failed() {
		t.Fatalf("memory %v", s.Get(memory(c.p)))
	}
}

// about are calls of all kinds at one address, with one number, and as many bytes if it is one of few.
func about(p, addr, n int) []call {
	l := []call{{kind: bytesCall, p: p, addr: addr, n: n}, {kind: textCall, p: p, addr: addr, n: n}}
	if n >= 0 && n < 1000 {
		l = append(l, call{kind: putCall, p: p, addr: addr, d: mixed(n, 4)}, call{kind: putCall, p: p, addr: addr, d: ink(n)})
	}
	return l
}

// All memories of a few bytes, at all places about them.
func TestTellingsOfShortMemories(t *testing.T) {
	const letters = "\x00a"
	for size := range 6 {
		for code := range power(len(letters), size) {
			p := code % maxProcs
			s := full()
			write(s, memory(p), spelled(letters, code, size))
			for addr := -2; addr < size+3; addr++ {
				for n := -2; n < size+3; n++ {
					for _, c := range about(p, addr, n) {
						wantTold(t, s, c)
					}
				}
			}
		}
	}
}

// Memories of all sizes, at places told by a sum that goes round, and about their ends.
func TestTellingsOfSizes(t *testing.T) {
	sum := uint32(3)
	for size := range 130 {
		p := size % maxProcs
		s := full()
		write(s, memory(p), mixed(size, 2+size%9))
		for range 30 {
			sum = sum*1664525 + 1013904223
			addr := int(sum>>8)%(size+4) - 1
			sum = sum*1664525 + 1013904223
			n := int(sum>>8)%(size+4) - 1
			for _, n := range []int{n, size - addr - 1, size - addr, size - addr + 1} {
				for _, c := range about(p, addr, n) {
					wantTold(t, s, c)
				}
			}
		}
	}
}

// Numbers far from all, with one another and with places.
func TestTellingsOfNumbers(t *testing.T) {
	for i, size := range []int{0, 1, 16, 40, 257} {
		s := full()
		write(s, memory(i), mixed(size, 5))
		some := append([]int{-2, -1, 0, 1, size - 1, size, size + 1, math.MaxInt - size, math.MinInt + size}, far()...)
		for _, addr := range some {
			for _, n := range some {
				for _, c := range about(i, addr, n) {
					wantTold(t, s, c)
				}
			}
		}
	}
}

// Whoever is asked: all processes, each with memory of its own, and strangers.
func TestTellingsOfProcesses(t *testing.T) {
	var mem []string
	for _, p := range all() {
		mem = append(mem, mixed(5*p, 3))
	}
	s := full(mem...)
	for _, p := range append(all(), strangers()...) {
		for addr := -1; addr < 38; addr++ {
			for _, n := range []int{-1, 0, 1, 2, 5, 17, 36, math.MaxInt, math.MinInt} {
				for _, c := range about(p, addr, n) {
					wantTold(t, s, c)
				}
			}
		}
	}
}
