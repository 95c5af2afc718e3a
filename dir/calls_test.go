package dir_test

import (
	"slices"
	"testing"

	"cloister/api"
	"cloister/dir"
	"cloister/inode"
	"cloister/store"
)

// pair is a name and its number in a plain table; a pair without a name is a gap.
type pair struct {
	s string
	i int
}

// stage has directories, seen through one view after the other, and the tables that they must be.
type stage struct {
	s      *store.Store
	v      *store.View
	tables map[int][]pair
}

// newStage has so many directories, from inode 1 on, and a file behind them.
func newStage(t *testing.T, many int) *stage {
	t.Helper()
	s := store.New()
	g := &stage{s: s, v: store.Look(s), tables: map[int][]pair{}}
	for d := range many {
		if i, ok := inode.Alloc(g.v, api.TDir); i != d+1 || !ok {
			t.Fatal(i, ok)
		}
		g.tables[d+1] = nil
	}
	inode.Alloc(g.v, api.TFile)
	return g
}

func (g *stage) at(d int, s string) int {
	return slices.IndexFunc(g.tables[d], func(p pair) bool { return p.s == s })
}

func (g *stage) number(d int, s string) int {
	if at := g.at(d, s); at >= 0 {
		return g.tables[d][at].i
	}
	return 0
}

func (g *stage) add(t *testing.T, d int, s string, i int) {
	t.Helper()
	l, is := g.tables[d]
	gap := g.at(d, "")
	if !is || g.at(d, s) >= 0 || gap < 0 && len(l) == 8 {
		wantAdd(t, g.v, d, s, i, false)
		return
	}
	wantAdd(t, g.v, d, s, i, true)
	if gap < 0 {
		g.tables[d] = append(l, pair{s, i})
	} else {
		l[gap] = pair{s, i}
	}
}

func (g *stage) remove(t *testing.T, d int, s string) {
	t.Helper()
	at := g.at(d, s)
	wantRemove(t, g.v, d, s, at >= 0)
	if at >= 0 {
		g.tables[d][at] = pair{}
	}
}

// settle puts what was done into the store, and goes on through a new view.
func (g *stage) settle() {
	lay(g.s, g.v)
	g.v = store.Look(g.s)
}

// check holds each directory against its table, with each of these names.
func (g *stage) check(t *testing.T, l []string) {
	t.Helper()
	for d := range maxInodes {
		table, is := g.tables[d]
		if dir.Is(g.v, d) != is {
			t.Errorf("Is(%d): %v", d, !is)
		}
		var there []string
		bare := true
		for _, p := range table {
			if p.s != "" {
				there = append(there, p.s)
				bare = bare && (p.s == "." || p.s == "..")
			}
		}
		wantNames(t, g.v, d, there)
		wantBare(t, g.v, d, bare)
		if inode.Size(g.v, d) != 16*len(table) {
			t.Errorf("directory %d has %d bytes", d, inode.Size(g.v, d))
		}
		for _, s := range l {
			wantFind(t, g.v, d, s, g.number(d, s))
		}
	}
}

// All rows of four calls about three names and two numbers, in a new directory and in one that has room for one more.
func TestP11_7AllShortRowsOfCalls(t *testing.T) {
	l := names("a", "b", "..")
	base := 3 * len(l)
	for begun := range 2 {
		for code := range base * base * base * base {
			g := newStage(t, 1)
			for i := range 7 * begun {
				g.add(t, 1, "n"+string(rune('0'+i)), 15)
			}
			for rest := code + base*base*base*base; rest >= base; rest /= base {
				s := l[rest%len(l)]
				switch c := rest % base / len(l); c {
				case 0, 1:
					g.add(t, 1, s, 5+c)
				case 2:
					g.remove(t, 1, s)
				}
			}
			g.check(t, l)
			if t.Failed() {
				t.Fatalf("begun %d, calls %d", begun, code)
			}
		}
	}
}

// Long rows of calls about many names in many directories beside each other: which, is told by a sum that goes round.
func TestP11_7LongRowsOfCalls(t *testing.T) {
	l := names("a", "b", "c", ".", "..", "ab", "abc", "a.c", "ABC", "\xff", "水", "fourteen bytes", "fourteen byte", " ", "a b")
	for start := range 6 {
		g := newStage(t, 1+3*start%14)
		n := uint32(start)
		next := func(many int) int {
			n = n*1664525 + 1013904223
			return int(n>>8) % many
		}
		for step := range 3000 {
			d, s := next(maxInodes), l[next(len(l))]
			switch next(8) {
			case 0, 1, 2, 3:
				g.add(t, d, s, 1+next(15))
			case 4, 5, 6:
				g.remove(t, d, s)
			case 7:
				g.settle()
			}
			if step%20 == 0 {
				g.check(t, l)
			}
		}
		g.check(t, l)
		if t.Failed() {
			t.Fatalf("start %d", start)
		}
	}
}

// The same names in several directories, each with numbers of its own.
func TestP11_7BesideEachOther(t *testing.T) {
	g := newStage(t, 14)
	l := names("a", "b", "c", "d", "e", "f", "g", "h")
	for i, s := range l {
		for d := 1; d <= 14; d++ {
			g.add(t, d, s, (d+i)%15+1)
		}
		g.check(t, l)
	}
	for d := 1; d <= 14; d++ {
		g.remove(t, d, l[d%8])
		g.check(t, l)
	}
	for d := 14; d >= 1; d-- {
		g.add(t, d, "new", d)
		g.add(t, d, "more", d)
		g.check(t, append(l, "new", "more"))
	}
}
