package unix_test

import (
	"strings"
	"testing"

	"cloister/api"
	"cloister/store"
	"cloister/unix"
)

// pick is one of these.
func (n *chance) pick(l ...int) int { return l[n.below(len(l))] }

// odd is any number, and often one near to 0.
func (n *chance) odd() int {
	if n.below(3) > 0 {
		return n.below(6) - 1
	}
	return far()[n.below(len(far()))]
}

// word is a table's: most of the first bits are set, and some of the others.
func (n *chance) word(end int) int {
	w := n.below(1<<16)<<end | free(n.below(end+1))
	return w &^ (1 << n.below(end))
}

// way is some path.
func (n *chance) way() string {
	s := ""
	for range 1 + n.below(4) {
		s += []string{"/", "a", "b", "c", "..", ".", "/", "/", "/a", "/b", "/.."}[n.below(11)]
	}
	return s
}

// listing are a directory's bytes, of names that are there and not, and of numbers that are inodes' and not.
func (n *chance) listing() string {
	var b strings.Builder
	for range n.below(9) {
		s := []string{"a", "b", "b", "c", "c", ".", "..", "", "d"}[n.below(9)]
		b.WriteString(entry(s, n.pick(0, 1, 2, 3, 3, 4, 4, 5, 5, 15, 16, 257)))
	}
	return b.String() + noughts(n.pick(0, 0, 3, 15))
}

func (n *chance) process() api.Value {
	x := val(n.pick(alive, alive, alive, alive, zombie, zombie, 0, n.odd()), n.pick(0, 1, 1, 2, 2, 3, n.odd()), n.pick(1, 2, 3, 4, n.odd()), n.odd(), n.pick(1, 1, 2, 3, 4, n.odd()), n.odd(), n.pick(0, 0, 0, 0, 0, 0, 0, 0, 0, n.odd()))
	for fd := range maxFd {
		x.N[8+fd] = n.pick(0, 1, 2, 3, 4, 5, 6, maxFiles, maxFiles+1, n.odd())
	}
	x.N[14] = n.odd()
	x.S = ink(n.below(8))
	return x
}

// inode is a directory in most places, and a file in others.
func (n *chance) inode(i int) api.Value {
	typ, s := dirType, n.listing()
	if i == 4 || i == 5 {
		typ = fileType
	}
	if i == 4 || n.below(6) == 0 {
		s = ink(n.pick(0, 1, 16, 17, 95, 96, 97, 127, 128, 129))
	}
	return lined(s, n.pick(typ, typ, typ, typ, typ, typ, typ, typ, typ, fileType, deviceType, 0, n.odd()), n.pick(0, 1, 1, 2, n.odd()), n.pick(0, 1, 1, n.odd()), n.odd())
}

func (n *chance) memory() api.Value {
	var x api.Value
	for r := range x.N {
		x.N[r] = int(bits()[n.below(len(bits()))])
	}
	if n.below(4) > 0 {
		x.S = ways
	}
	for range n.below(4) {
		x.S += n.way() + noughts(n.below(3))
	}
	x.S += noughts(n.pick(0, 1, 9, 40))
	return x
}

// object is what an object of a strange store has: it may be anything, and is often what leads on.
func (n *chance) object(k api.Key) api.Value {
	switch k.Kind {
	case api.KPool:
		return lined("pool", n.word(50), n.word(40), n.odd())
	case api.KProcs:
		return lined("procs", n.word(maxProcs), n.odd(), n.odd())
	case api.KProc:
		return n.process()
	case api.KFiles:
		return lined("files", n.word(maxFiles), n.odd())
	case api.KFile:
		return lined("file", n.pick(node, node, node, reader, writer, n.odd()), n.pick(1, 1, 2, n.odd()), n.pick(0, 1, 1, 2, 3, n.odd()), n.pick(0, 0, 1, 9, n.odd()), n.pick(1, 2, 3, 3, n.odd()), n.odd())
	case api.KPipes:
		return lined("pipes", n.word(maxPipes), n.odd())
	case api.KPipe:
		return lined(ink(n.pick(0, 0, 3, 15, 16, 17)), n.pick(0, 1, 2, n.odd()), n.pick(0, 1, 2, n.odd()), n.odd())
	case api.KInodes:
		return lined("inodes", n.word(maxInodes), n.odd())
	case api.KInode:
		return n.inode(k.N)
	case api.KMem:
		return n.memory()
	}
	return lined(ink(n.pick(0, 1, 5, 63, 64, 65)), n.odd(), n.odd())
}

func (n *chance) store() *store.Store {
	s := store.New()
	for _, k := range objects {
		s.Put(k, n.object(k))
	}
	return s
}

// call is any call: its numbers are often what there is something of.
func (n *chance) call() api.Call {
	c := api.Call{Num: 1 + n.below(27)}
	for _, at := range []*int{&c.A, &c.B, &c.C} {
		*at = n.pick(0, 1, 2, 3, 4, 5, 8, 12, n.odd())
	}
	switch c.Num {
	case api.COpen:
		c.A, c.B = n.pick(atA, atAB, atC, c.A), n.pick(0, hWrite, hBoth, hCreate, making, c.B)
	case api.CExec, api.CChdir, api.CNode, api.CUnlink, api.CLink, api.CMkdir:
		c.A, c.B = n.pick(atA, atAB, atC, atUp, atUpC, atDot, c.A), n.pick(atA, atAB, atC, atUpC, c.B)
	}
	return c
}

// wantHangs wants an act that is told of a store to be told of another one, too, of which the objects are others, but
// for those that were read.
func wantHangs(t *testing.T, n *chance, s *store.Store, p int, c api.Call, a api.Act) {
	t.Helper()
	other := n.store()
	for _, k := range a.Reads {
		other.Put(k, s.Get(k))
	}
	wantAct(t, "of another store", unix.Do(other, p, c), a)
	if t.Failed() {
		t.Fatalf("call %v of process %d", c, p)
	}
}

// Whatever the objects have, a call ends, and comes to what is told of it, by what it read alone.
func TestP18_21StrangeStores(t *testing.T) {
	comes := map[[3]int]int{}
	for start := range 1500 {
		n := chance(start * 77)
		s := n.store()
		for p := range 4 {
			set(s, process(p), 0, n.pick(alive, alive, s.Get(process(p)).N[0]))
			for range 4 {
				c := n.call()
				a := wantTold(t, s, p, c)
				wantHangs(t, &n, s, p, c, a)
				comes[[3]int{c.Num, a.Status, min(a.Ret, 0)}]++
			}
		}
	}
	// each call came to its end in strange stores, and was refused in others
	for num := 1; num <= 25; num++ {
		status := done
		if num == api.CExit {
			status = gone
		}
		if comes[[3]int{num, status, 0}] < 3 {
			t.Errorf("call %d was done %d times", num, comes[[3]int{num, status, 0}])
		}
		if comes[[3]int{num, done, -1}] < 3 {
			t.Errorf("call %d was refused %d times", num, comes[[3]int{num, done, -1}])
		}
	}
}

// All objects are the same odd value.
func TestP18_21StoresOfOneValue(t *testing.T) {
	for _, n := range append([]int{0, 1, 2, 3, 7, -1, -2}, far()...) {
		for _, text := range []string{"", "\x00", "/\x00", ink(3), ink(300), strings.Repeat(entry("a", 1), 9)} {
			x := api.Value{S: text}
			for i := range x.N {
				x.N[i] = n
			}
			s := store.New()
			for _, k := range objects {
				s.Put(k, x)
			}
			set(s, procs(), 0, -1)
			for p := range 2 {
				set(s, process(p), 0, alive)
				set(s, process(p), 6, 0)
				for _, c := range calls() {
					wantTold(t, s, p, c)
				}
			}
		}
	}
}

// A store that calls came to, with one object that has something else.
func TestP18_21OneStrangeObject(t *testing.T) {
	for start := range 40 {
		n := chance(start + 5)
		x := boot(t, 20, 3)
		x.wander(&n, 60)
		for _, k := range objects {
			s := x.s.Twin()
			s.Put(k, n.object(k))
			for p := range maxProcs {
				if s.Get(process(p)).N[0] != alive {
					continue
				}
				for range 3 {
					l := steps()
					c := l[n.below(len(l))]
					wantHangs(t, &n, s, p, c, wantTold(t, s, p, c))
				}
			}
		}
	}
}

// The deeds that are no calls hang on what they read, too, and stop for nothing.
func TestP18_22StrangeStores(t *testing.T) {
	for start := range 200 {
		n := chance(start)
		s := n.store()
		for _, d := range []api.Deed{{Kind: api.DTick}, {Kind: api.DType, Text: ink(n.below(70))}, {Kind: api.DBack, Pages: append(from(n.below(60), 20), far()...)}, {Kind: n.odd() + 10}} {
			was := s.Twin()
			a := unix.Run(s, d)
			wantSame(t, "a deed", s, was)
			other := n.store()
			for _, k := range a.Reads {
				other.Put(k, s.Get(k))
			}
			wantAct(t, "of another store", unix.Run(other, d), a)
		}
	}
}
