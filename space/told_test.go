package space_test

import (
	"math"
	"slices"
	"testing"

	"cloister/api"
	"cloister/key"
	"cloister/space"
	"cloister/store"
)

// Kinds of calls.
const (
	growCall = iota
	shrinkCall
	backCall
	pagesCall
	freeCall
)

// call is one call, with the fields that its kind takes.
type call struct {
	kind, p, n int
	l          []int
}

// answer has what a call answers at the fields of its kind.
type answer struct {
	n  int
	l  []int
	ok bool
}

func (a answer) same(b answer) bool {
	return a.n == b.n && a.ok == b.ok && slices.Equal(a.l, b.l)
}

func (c call) do(v *store.View) answer {
	var a answer
	switch c.kind {
	case growCall:
		a.ok = space.Grow(v, c.p, c.n)
	case shrinkCall:
		a.l, a.ok = space.Shrink(v, c.p, c.n)
	case backCall:
		space.Back(v, c.l)
	case pagesCall:
		a.l = space.Pages(v, c.p)
	case freeCall:
		a.n = space.Free(v)
	}
	return a
}

// These tell a word as the pages that it has, one by one, and as a word again.
func pagesOf(n int) [maxPages]bool {
	var l [maxPages]bool
	for g := range l {
		l[g] = n&1 == 1
		n >>= 1
	}
	return l
}

func wordOf(l [maxPages]bool) int {
	n := 0
	for g := range l {
		n *= 2
		if l[maxPages-1-g] {
			n++
		}
	}
	return n
}

// telling is what a call of a store must answer, read and write: told from the store's values, in the chapter's order.
type telling struct {
	s      *store.Store
	read   []api.Key
	redo   []api.Write
	answer answer
}

func (g *telling) get(k api.Key) api.Value {
	g.read = append(g.read, k)
	return g.s.Get(k)
}

// pool tells the pool's value, which pages are free, and which are on their way.
func (g *telling) pool() (x api.Value, free, away [maxPages]bool) {
	x = g.get(pool())
	return x, pagesOf(x.N[0]), pagesOf(x.N[1])
}

func (g *telling) putPool(x api.Value, free, away [maxPages]bool) {
	x.N[0], x.N[1] = wordOf(free), wordOf(away)
	g.redo = append(g.redo, put(pool(), x))
}

// process is what p has, if it is one.
func (g *telling) process(p int) (api.Value, bool) {
	if !slices.Contains(all(), p) || g.get(table()).N[0]>>p&1 == 0 {
		return zero, false
	}
	x := g.get(process(p))
	return x, x.N[0] != 0
}

func (g *telling) tell(c call) {
	switch c.kind {
	case growCall:
		g.grow(c.p, c.n)
	case shrinkCall:
		g.shrink(c.p, c.n)
	case backCall:
		g.back(c.l)
	case pagesCall:
		x, _ := g.process(c.p)
		if x.N[0] != 0 {
			g.answer.l = round(x.S)
		}
	case freeCall:
		_, free, _ := g.pool()
		for _, is := range free {
			if is {
				g.answer.n++
			}
		}
	}
}

// round are the pages that bytes tell.
func round(text string) []int {
	var l []int
	for _, b := range []byte(text) {
		for b >= maxPages {
			b -= maxPages
		}
		l = append(l, int(b))
	}
	return l
}

func (g *telling) grow(p, n int) {
	x, is := g.process(p)
	if !is || n < 0 {
		return
	}
	mem := g.get(memory(p))
	if len(x.S) > maxSize || n > maxSize-len(x.S) {
		return
	}
	all, free, away := g.pool()
	had := 0
	for page := range free {
		if free[page] && had < n {
			free[page] = false
			x.S += raw(page)
			mem.S += noughts(pageLen)
			had++
		}
	}
	if had < n {
		return
	}
	g.putPool(all, free, away)
	g.redo = append(g.redo, put(process(p), x), put(memory(p), mem))
	g.answer.ok = true
}

func (g *telling) shrink(p, n int) {
	x, is := g.process(p)
	if !is || n < 0 {
		return
	}
	mem := g.get(memory(p))
	if n > len(x.S) {
		return
	}
	all, free, away := g.pool()
	for range n {
		last := round(x.S)[len(x.S)-1]
		g.answer.l = append([]int{last}, g.answer.l...)
		away[last] = true
		x.S = x.S[:len(x.S)-1]
	}
	mem.S = cut(mem.S, pageLen*len(x.S))
	g.putPool(all, free, away)
	g.redo = append(g.redo, put(process(p), x), put(memory(p), mem))
	g.answer.ok = true
}

func (g *telling) back(l []int) {
	all, free, away := g.pool()
	for page := range maxPages {
		if slices.Contains(l, page) && away[page] {
			free[page], away[page] = true, false
		}
	}
	g.putPool(all, free, away)
}

// wantTold does the call through a new view of s, and wants what is told of it.
func wantTold(t *testing.T, s *store.Store, c call) {
	t.Helper()
	g := telling{s: s}
	g.tell(c)
	slices.SortFunc(g.redo, func(a, b api.Write) int { return key.Place(a.Key) - key.Place(b.Key) })
	v := store.Look(s)
	if got := c.do(v); !got.same(g.answer) {
		t.Errorf("%v: %v, not %v", c, got, g.answer)
	}
	if got, want := v.Reads(), key.Sort(g.read); !slices.Equal(got, want) {
		t.Errorf("%v: read %v, not %v", c, got, want)
	}
	if got := v.Redo(); !slices.Equal(got, g.redo) {
		t.Errorf("%v: written %v, not %v", c, got, g.redo)
	}
	if t.Failed() {
		t.Fatalf("pool %v, table %v, process %v, memory %v", s.Get(pool()), s.Get(table()), s.Get(process(c.p)), s.Get(memory(c.p)))
	}
}

// calls are calls of all kinds about one number.
func calls(p int) []call {
	l := []call{{kind: pagesCall, p: p}, {kind: freeCall}, {kind: backCall, l: []int{p, 0, 63}}}
	for n := -1; n <= maxSize+2; n++ {
		l = append(l, call{kind: growCall, p: p, n: n}, call{kind: shrinkCall, p: p, n: n})
	}
	return l
}

// oddWords are words of the pool of all sorts.
func oddWords() []int {
	l := []int{0, 1, 2, 7, 8, 31, 63, 1 << 31, 1 << 32, 3 << 31, 1 << 62, 3 << 62 >> 1, math.MinInt, math.MinInt | 1, math.MaxInt, -1, -2, 0x5555555555555555, -0x5555555555555556}
	n := uint64(1)
	for range 12 {
		n = n*6364136223846793005 + 1442695040888963407
		l = append(l, int(n), int(n&(n>>7)&(n<<9)&(n>>20)))
	}
	return l
}

// oddTexts are pages of all sorts: none, some, too many, twice, and bytes that go round.
func oddTexts() []string {
	return []string{"", "\x00", "\x3f", "\x40", "\xff", "\x05\x04", "\x07\x07", "\x07\x47\x87\xc7", "\x01\x02\x03", "\x3f\x3e\x3d\x3c\x3b", "\x00\x01\x02\x03\x04\x05", "\x80\x81\xfe\xff\x20\x21", "abcdefg", ink(64), ink(300)}
}

// Pools of all sorts, with processes of all sorts.
func TestTellingsOfPools(t *testing.T) {
	s := full(0)
	for i, free := range oddWords() {
		for j, away := range oddWords() {
			s.Put(pool(), words(s, free, away))
			p := (i + j) % maxProcs
			text := oddTexts()[(3*i+j)%len(oddTexts())]
			write(s, process(p), text)
			write(s, memory(p), ink((i*j)%120))
			for _, c := range calls(p) {
				wantTold(t, s, c)
			}
			for g := range 8 {
				wantTold(t, s, call{kind: backCall, l: []int{(i + 8*g) % 66, (j*g)%66 - 1, 63 - g}})
			}
		}
	}
}

// Processes of all sorts, with memory that is shorter and longer than their pages ask.
func TestTellingsOfProcesses(t *testing.T) {
	s := full(0)
	for i, text := range oddTexts() {
		for length := 0; length < 130; length += 1 + length%5 {
			p := (i + length) % maxProcs
			write(s, process(p), text)
			write(s, memory(p), ink(length))
			for _, free := range []int{0, word(9, 11, 63), -1} {
				s.Put(pool(), words(s, free, word(length%64)))
				for _, c := range calls(p) {
					wantTold(t, s, c)
				}
			}
		}
	}
}

// Tables and states of all sorts, and numbers far from all.
func TestTellingsOfNumbers(t *testing.T) {
	s := full(3)
	some := append([]int{-1, 0, 1, 2, 3, 255}, far()...)
	for i, used := range some {
		for j, state := range some {
			p := (i + j) % maxProcs
			set(s, table(), 0, used)
			set(s, process(p), 0, state)
			for _, n := range []int{p, used, state} {
				for _, c := range calls(n)[:9] {
					wantTold(t, s, c)
				}
			}
			wantTold(t, s, call{kind: growCall, p: p, n: used})
			wantTold(t, s, call{kind: shrinkCall, p: p, n: used})
		}
	}
	for _, p := range strangers() {
		for _, c := range calls(p) {
			wantTold(t, s, c)
		}
	}
}

// Lists of all lengths up to some, of numbers about pages.
func TestTellingsOfLists(t *testing.T) {
	s := full(2)
	n := uint32(7)
	for _, away := range oddWords() {
		for _, free := range []int{0, -1, ^away, away & 0xffff} {
			s.Put(pool(), words(s, free, away))
			for length := range 40 {
				l := make([]int, length)
				for i := range l {
					n = n*1664525 + 1013904223
					l[i] = int(n>>8)%70 - 3
				}
				wantTold(t, s, call{kind: backCall, l: l})
			}
		}
	}
}
