package file_test

import (
	"math"
	"slices"
	"testing"

	"cloister/api"
	"cloister/file"
	"cloister/key"
	"cloister/store"
)

// Kinds of calls.
const (
	isCall = iota
	openCall
	dupCall
	closeCall
	readCall
	writeCall
	statCall
)

// call is one call: kindOf, what, mode are an Open's, n is a Read's, d a Write's.
type call struct {
	kind, f            int
	kindOf, what, mode int
	n                  int
	d                  string
}

// answer has what a call answers at the fields of its kinds.
type answer struct {
	s        string
	n, state int
	stat     api.Stat
	ok       bool
}

func (c call) do(v *store.View) answer {
	var a answer
	switch c.kind {
	case isCall:
		a.ok = file.Is(v, c.f)
	case openCall:
		a.n, a.ok = file.Open(v, c.kindOf, c.what, c.mode)
	case dupCall:
		a.ok = file.Dup(v, c.f)
	case closeCall:
		a.ok = file.Close(v, c.f)
	case readCall:
		a.s, a.state = file.Read(v, c.f, c.n)
	case writeCall:
		a.n, a.state = file.Write(v, c.f, c.d)
	case statCall:
		a.stat, a.ok = file.Stat(v, c.f)
	}
	return a
}

// telling is what a call of a store must answer, read and write: told from the store's values, in the chapter's order.
type telling struct {
	s      *store.Store
	read   []api.Key
	redo   []api.Write
	answer answer
}

func (g *telling) get(k api.Key) api.Value {
	g.read = append(g.read, k)
	return g.s.Get(k)
}

func (g *telling) put(k api.Key, x api.Value) { g.redo = append(g.redo, put(k, x)) }

func (g *telling) tell(c call) {
	if c.kind == openCall {
		g.open(c)
		return
	}
	switch c.kind {
	case readCall:
		g.answer.state = fails
	case writeCall:
		g.answer.n, g.answer.state = -1, fails
	}
	if !slices.Contains(all(), c.f) || g.get(table()).N[0]>>c.f&1 == 0 {
		return
	}
	if c.kind == isCall {
		g.answer.ok = true
		return
	}
	if c.kind == readCall && c.n < 0 {
		return
	}
	x := g.get(object(c.f))
	switch c.kind {
	case dupCall:
		g.answer.ok = true
		x.N[1]++
		g.put(object(c.f), x)
	case closeCall:
		g.close(c, x)
	case readCall:
		g.reads(c, x)
	case writeCall:
		g.writes(c, x)
	case statCall:
		g.stat(x)
	}
}

func (g *telling) open(c call) {
	used := g.get(table())
	for _, f := range all() {
		if used.N[0]>>f&1 == 0 {
			used.N[0] += 1 << f
			g.put(table(), used)
			g.put(object(f), val(c.kindOf, 1, c.what, 0, c.mode))
			g.answer.n, g.answer.ok = f, true
			return
		}
	}
}

// inode is what the inode has; nothing, if it is none.
func (g *telling) inode(i int) (api.Value, bool) {
	if i < 1 || i > 15 {
		return zero, false
	}
	x := g.get(inodeOf(i))
	return x, x.N[0] != 0
}

func (g *telling) pipe(q int) (api.Value, bool) {
	if q < 0 || q > 3 || g.get(pipes()).N[0]>>q&1 == 0 {
		return zero, false
	}
	return g.get(pipeOf(q)), true
}

func (g *telling) close(c call, x api.Value) {
	g.answer.ok = true
	x.N[1]--
	if x.N[1] > 0 {
		g.put(object(c.f), x)
		return
	}
	used := g.s.Get(table())
	used.N[0] -= 1 << c.f
	g.put(object(c.f), zero)
	g.put(table(), used)
	switch what := x.N[2]; x.N[0] {
	case node:
		i, is := g.inode(what)
		if i.N[2]--; is {
			g.lose(inodeOf(what), i, max(i.N[1], i.N[2]) > 0, inodes())
		}
	case reader, writer:
		p, is := g.pipe(what)
		if p.N[x.N[0]-reader]--; is {
			g.lose(pipeOf(what), p, max(p.N[0], p.N[1]) > 0, pipes())
		}
	}
}

// lose puts what the object has then, if it stays; else it goes, with its bit.
func (g *telling) lose(k api.Key, then api.Value, stays bool, bitsOf api.Key) {
	if stays {
		g.put(k, then)
		return
	}
	g.put(k, zero)
	used := g.get(bitsOf)
	used.N[0] &= -1 - 1<<k.N
	g.put(bitsOf, used)
}

// part is the bytes from off on, n at most, and all the others.
func part(s string, off, n int) (string, string) {
	var out, left []byte
	for j := range len(s) {
		if off >= 0 && j >= off && j-off < n {
			out = append(out, s[j])
		} else {
			left = append(left, s[j])
		}
	}
	return string(out), string(left)
}

func (g *telling) reads(c call, x api.Value) {
	if x.N[4]&1 == 0 {
		return
	}
	switch x.N[0] {
	case reader:
		if p, is := g.pipe(x.N[2]); is {
			g.take(pipeOf(x.N[2]), p, c.n, p.N[1] > 0)
		}
	case node:
		i, is := g.inode(x.N[2])
		if !is {
			return
		}
		if i.N[0] == deviceType {
			g.take(cons(), g.get(cons()), c.n, true)
			return
		}
		g.answer.s, _ = part(i.S, x.N[3], c.n)
		g.answer.state = done
		x.N[3] += len(g.answer.s)
		g.put(object(c.f), x)
	}
}

// take takes the first n bytes of what waits in an object; without any, one waits for more, if some may come.
func (g *telling) take(k api.Key, x api.Value, n int, more bool) {
	out, left := part(x.S, 0, n)
	g.answer.s, g.answer.state = out, done
	if out != "" {
		x.S = left
		g.put(k, x)
	} else if n > 0 && more {
		g.answer.state = blocks
	}
}

func (g *telling) writes(c call, x api.Value) {
	if x.N[4]&2 == 0 {
		return
	}
	switch x.N[0] {
	case writer:
		if p, is := g.pipe(x.N[2]); is && p.N[0] > 0 {
			g.fill(c, pipeOf(x.N[2]), p)
		}
	case node:
		i, is := g.inode(x.N[2])
		switch {
		case !is:
		case i.N[0] == deviceType:
			g.put(cons(), after(g.get(cons()), c.d))
			g.answer.n, g.answer.state = len(c.d), done
		case x.N[3] >= 0 && x.N[3] <= min(len(i.S), maxFile):
			then, n := over(i.S, x.N[3], c.d)
			i.S = then
			g.put(inodeOf(x.N[2]), i)
			if n == 0 && c.d != "" {
				return
			}
			g.answer.n, g.answer.state = n, done
			x.N[3] += n
			g.put(object(c.f), x)
		}
	}
}

func (g *telling) fill(c call, k api.Key, p api.Value) {
	in := []byte(p.S)
	for j := 0; j < len(c.d) && len(in) < maxPipe; j++ {
		in = append(in, c.d[j])
	}
	g.answer.n, g.answer.state = len(in)-len(p.S), done
	if g.answer.n > 0 {
		p.S = string(in)
		g.put(k, p)
	} else if c.d != "" {
		g.answer.state = blocks
	}
}

func (g *telling) stat(x api.Value) {
	if x.N[0] != node {
		return
	}
	if i, is := g.inode(x.N[2]); is {
		g.answer.stat, g.answer.ok = api.Stat{Type: i.N[0], Inode: x.N[2], Links: i.N[1], Size: len(i.S)}, true
	}
}

// wantTold does the call through a new view of s, and wants what is told of it.
func wantTold(t *testing.T, s *store.Store, c call) {
	t.Helper()
	g := telling{s: s}
	g.tell(c)
	slices.SortFunc(g.redo, func(a, b api.Write) int { return key.Place(a.Key) - key.Place(b.Key) })
	v := store.Look(s)
	if got := c.do(v); got != g.answer {
		t.Errorf("%v: %v, not %v", c, got, g.answer)
	}
	if got, want := v.Reads(), key.Sort(g.read); !slices.Equal(got, want) {
		t.Errorf("%v: read %v, not %v", c, got, want)
	}
	if got := v.Redo(); !slices.Equal(got, g.redo) {
		t.Errorf("%v: written %v, not %v", c, got, g.redo)
	}
	if t.Failed() {
		t.Fatalf("file %v, inodes 1 %v, 2 %v, pipe 1 %v", s.Get(object(c.f)), s.Get(inodeOf(1)), s.Get(inodeOf(2)), s.Get(pipeOf(1)))
	}
}

// calls are calls of all kinds about one file.
func calls(f int) []call {
	l := []call{{kind: isCall, f: f}, {kind: dupCall, f: f}, {kind: closeCall, f: f}, {kind: statCall, f: f}, {kind: openCall, kindOf: writer, what: f, mode: 5}}
	for _, n := range []int{-1, 0, 1, 2, 17, math.MinInt, math.MaxInt} {
		l = append(l, call{kind: readCall, f: f, n: n})
	}
	for _, n := range []int{0, 1, 3, 17, 200} {
		l = append(l, call{kind: writeCall, f: f, d: text(n + 5)[5:]})
	}
	return l
}

// Files of all kinds, modes and numbers, beside inodes and pipes that are there or not: all calls.
func TestTellings(t *testing.T) {
	s := full(odd | every)
	with(s, put(pipes(), bits(0, 1, 9)), put(pipeOf(1), pipeVal(1, 1, "abcd")), put(inodeOf(1), inodeVal(fileType, 0, 1, "abcdef")), put(inodeOf(2), inodeVal(deviceType, 1, 1, "xyz")), put(inodeOf(3), inodeVal(0, 1, 1, "uvw")))
	for kind := -1; kind <= 5; kind++ {
		for mode := -1; mode <= 5; mode++ {
			for _, what := range append([]int{-1, 0, 1, 2, 3, 4, 5, 15, 16, 17}, far()...) {
				f := (kind + mode + what&3 + 5) % maxFiles
				x := s.Get(object(f))
				x.N[0], x.N[1], x.N[2], x.N[3], x.N[4] = kind, mode+what&1, what, 4, mode
				s.Put(object(f), x)
				for _, c := range calls(f) {
					wantTold(t, s, c)
				}
			}
		}
	}
}

// Inodes of all types, sizes and holders, at all offsets: all calls.
func TestTellingsOfInodes(t *testing.T) {
	s := full(odd | every)
	for _, typ := range []int{0, dirType, fileType, deviceType, 4, -1} {
		for _, size := range []int{0, 1, 5, 127, 128, 129, 200} {
			i := s.Get(inodeOf(1))
			i.N[0], i.N[1], i.N[2], i.S = typ, size%2, size%3, text(size)
			s.Put(inodeOf(1), i)
			for _, off := range append([]int{-1, 0, 1, size / 2, size - 2, size - 1, size, size + 1, 126, 127, 128, 129}, far()...) {
				s.Put(object(3), val(node, size%2+1, 1, off, both))
				for _, c := range calls(3) {
					wantTold(t, s, c)
				}
			}
		}
	}
}

// Pipes with numbers of ends of all signs, and texts about MaxPipe's length: all calls of both ends.
func TestTellingsOfPipes(t *testing.T) {
	s := full(odd | every)
	s.Put(pipes(), bits(1, 40))
	for _, readers := range []int{-1, 0, 1, 2, math.MaxInt, math.MinInt} {
		for _, writers := range []int{-1, 0, 1, 2, math.MaxInt, math.MinInt} {
			for _, size := range []int{0, 1, 2, 15, 16, 17, 40} {
				s.Put(pipeOf(1), pipeVal(readers, writers, text(size)))
				for _, kind := range []int{reader, writer} {
					s.Put(object(3), val(kind, size%2+1, 1, 9, both))
					for _, c := range calls(3) {
						wantTold(t, s, c)
					}
				}
			}
		}
	}
}

// Numbers of holders of all signs, of a file and of what it has: what is left, and what goes.
func TestTellingsOfHolders(t *testing.T) {
	s := full(odd | every)
	s.Put(pipes(), bits(1))
	for _, own := range counts() {
		for _, a := range counts() {
			for _, b := range counts() {
				with(s, put(pipeOf(1), pipeVal(a, b, "abc")), put(inodeOf(1), inodeVal(fileType, a, b, "abc")))
				for kind := range 5 {
					s.Put(object(7), val(kind, own, 1, 0, both))
					wantTold(t, s, call{kind: dupCall, f: 7})
					wantTold(t, s, call{kind: closeCall, f: 7})
				}
			}
		}
	}
}

// Consoles of any numbers, and with as much typed as may be, or more: all calls.
func TestTellingsOfConsoles(t *testing.T) {
	s := full(odd | every)
	with(s, put(object(9), val(node, 1, 15, 4, both)), put(inodeOf(15), inodeVal(deviceType, 1, 1, "xyz")))
	for _, count := range counts() {
		for _, sum := range append(counts(), far()...) {
			for _, size := range []int{0, 1, 2, 16, 17, 63, 64, 65, 200} {
				x := s.Get(cons())
				x.N[0], x.N[1], x.S = count, sum, text(size)
				s.Put(cons(), x)
				for _, c := range calls(9) {
					wantTold(t, s, c)
				}
			}
		}
	}
}

// Tables of all kinds, and odd ones; all files, and strangers.
func TestTellingsOfTables(t *testing.T) {
	s := full(0)
	with(s, put(pipes(), bits(0, 1, 2)), put(inodeOf(1), inodeVal(fileType, 0, 1, "abcdef")))
	for _, f := range all() {
		s.Put(object(f), val(f%4, f%3, 1, 2, both))
	}
	for _, high := range oddTables() {
		for used := 0; used < 1<<maxFiles; used += 1 + used%97 {
			x := s.Get(table())
			x.N[0] = high + used
			s.Put(table(), x)
			for _, f := range all() {
				for _, c := range calls(f)[:9] {
					wantTold(t, s, c)
				}
			}
			for _, f := range strangers() {
				wantTold(t, s, call{kind: closeCall, f: f})
				wantTold(t, s, call{kind: writeCall, f: f, d: "x"})
			}
		}
	}
}
