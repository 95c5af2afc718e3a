package inode_test

import (
	"math"
	"slices"
	"strings"
	"testing"

	"cloister/api"
	"cloister/inode"
	"cloister/key"
	"cloister/store"
)

// The limits, by hand: the tests hold the package against these.
const (
	maxInodes = 16
	maxFile   = 128
)

var zero = api.Value{}

func table() api.Key { return api.Key{Kind: api.KInodes} }

func object(i int) api.Key { return api.Key{Kind: api.KInode, N: i} }

func keys(l ...api.Key) []api.Key { return l }

// val is an inode's value; bits is the table's, with the bits of these inodes.
func val(typ, links, holders int, bytes string) api.Value {
	return api.Value{N: [16]int{typ, links, holders}, S: bytes}
}

func bits(l ...int) api.Value {
	x := api.Value{}
	for _, i := range l {
		x.N[0] |= 1 << i
	}
	return x
}

// all are the inodes there may be.
func all() []int { return []int{1, 2, 3, 4, 5, 6, 7, 8, 9, 10, 11, 12, 13, 14, 15} }

// but is all without some.
func but(l ...int) []int {
	return slices.DeleteFunc(all(), func(i int) bool { return slices.Contains(l, i) })
}

// far are numbers far from every inode, place and count; some of them are near to one if bits of them are lost.
func far() []int {
	return []int{
		99, 255, 256, 257, 1 << 16, 1<<16 + 1, 1<<31 - 1, 1 << 31, 1 << 32, 1<<32 + 1, 1<<32 + 15, 1 << 62, 1<<62 + 1, math.MaxInt - 1, math.MaxInt,
		-99, -255, -256, -1 << 16, -1<<16 + 1, -1 << 31, -1<<32 + 1, -1 << 32, -1 << 62, -1<<62 + 1, math.MinInt, math.MinInt + 1,
	}
}

// strangers are no inodes, whatever the objects have.
func strangers() []int {
	return append([]int{0, 16, 17, 31, 32, 33, 64, 65, -1, -2, -15, -16}, far()...)
}

func row() []api.Key {
	var l []api.Key
	for place := range key.All() {
		k, _ := key.At(place)
		l = append(l, k)
	}
	return l
}

// one is a store that has x as inode i and nothing else.
func one(i int, x api.Value) *store.Store {
	s := store.New()
	s.Put(object(i), x)
	return s
}

// full is a store in which every object has numbers at all places, and bytes, of its own; each inode is one.
func full() *store.Store {
	s := store.New()
	for place, k := range row() {
		x := api.Value{S: strings.Repeat(string(rune('a'+place)), 3+place)}
		for i := range x.N {
			x.N[i] = 100*place + i + 3
		}
		s.Put(k, x)
	}
	return s
}

// lay puts what was written through the view into the store.
func lay(s *store.Store, v *store.View) {
	for _, w := range v.Redo() {
		s.Put(w.Key, w.Value)
	}
}

func wantIs(t *testing.T, v *store.View, i, typ, links, size int) {
	t.Helper()
	if !inode.Is(v, i) || inode.Type(v, i) != typ || inode.Links(v, i) != links || inode.Size(v, i) != size {
		t.Errorf("inode %d: %v, type %d, links %d, size %d, not true, %d, %d, %d",
			i, inode.Is(v, i), inode.Type(v, i), inode.Links(v, i), inode.Size(v, i), typ, links, size)
	}
}

// wantNone wants that all calls tell that i is no inode.
func wantNone(t *testing.T, v *store.View, i int) {
	t.Helper()
	if inode.Is(v, i) || inode.Type(v, i) != 0 || inode.Links(v, i) != 0 || inode.Size(v, i) != 0 {
		t.Errorf("inode %d: %v, type %d, links %d, size %d", i, inode.Is(v, i), inode.Type(v, i), inode.Links(v, i), inode.Size(v, i))
	}
	wantRead(t, v, i, 0, 9, "")
	wantWrite(t, v, i, 0, "x", -1)
	wantWrite(t, v, i, 0, "", -1)
	wantChange(t, v, i, 1, 1, false)
}

func wantAlloc(t *testing.T, v *store.View, typ, want int, had bool) {
	t.Helper()
	if i, ok := inode.Alloc(v, typ); i != want || ok != had {
		t.Errorf("Alloc(%d): %d, %v, not %d, %v", typ, i, ok, want, had)
	}
}

func wantChange(t *testing.T, v *store.View, i, links, holders int, want bool) {
	t.Helper()
	if got := inode.Change(v, i, links, holders); got != want {
		t.Errorf("Change(%d, %d, %d): %v", i, links, holders, got)
	}
}

func wantRead(t *testing.T, v *store.View, i, off, n int, want string) {
	t.Helper()
	if got := inode.Read(v, i, off, n); got != want {
		t.Errorf("Read(%d, %d, %d): %q, not %q", i, off, n, got, want)
	}
}

func wantWrite(t *testing.T, v *store.View, i, off int, d string, want int) {
	t.Helper()
	if got := inode.Write(v, i, off, d); got != want {
		t.Errorf("Write(%d, %d, %q): %d, not %d", i, off, d, got, want)
	}
}

// wantHas wants that the object, seen through the view, has x and nothing else.
func wantHas(t *testing.T, v *store.View, k api.Key, x api.Value) {
	t.Helper()
	if got := v.Get(k); got != x {
		t.Errorf("object %v has %v, not %v", k, got, x)
	}
}

func TestLimits(t *testing.T) {
	if api.MaxInodes != maxInodes || api.MaxFile != maxFile {
		t.Error(api.MaxInodes, api.MaxFile)
	}
}

func TestRuns(t *testing.T) {
	v := store.Look(store.New())
	wantAlloc(t, v, api.TFile, 1, true)
	wantWrite(t, v, 1, 0, "abc", 3)
	wantWrite(t, v, 1, 1, "xyz", 3)
	wantRead(t, v, 1, 0, 9, "axyz")
	wantChange(t, v, 1, 0, 0, true)
	wantNone(t, v, 1)
	wantAlloc(t, v, api.TFile, 1, true)
	wantIs(t, v, 1, api.TFile, 0, 0)
}

func TestP10_1EveryInode(t *testing.T) {
	for _, i := range all() {
		v := store.Look(one(i, val(10+i, 20+i, 30+i, strings.Repeat("x", 40+i))))
		wantIs(t, v, i, 10+i, 20+i, 40+i)
		for _, other := range but(i) {
			wantNone(t, v, other)
		}
	}
	v := store.Look(full())
	for _, i := range all() {
		place := key.Place(object(i))
		wantIs(t, v, i, 100*place+3, 100*place+4, len(full().Get(object(i)).S))
	}
}

// Object 0 is there, and has all that an inode has; it is none, as what stands before and behind all objects is none.
func TestP10_1Strangers(t *testing.T) {
	s := full()
	for _, i := range strangers() {
		wantNone(t, store.Look(s), i)
	}
	for _, x := range []api.Value{val(api.TDir, 1, 1, "abc"), val(api.TFile, 0, 1, ""), val(-1, -1, -1, "x")} {
		v := store.Look(one(0, x))
		wantNone(t, v, 0)
		wantHas(t, v, object(0), x)
	}
}

// An object without a type is no inode, whatever else it has; one with a type alone is one.
func TestP10_1TheTypeAloneDecides(t *testing.T) {
	for _, i := range all() {
		x := full().Get(object(i))
		x.N[0] = 0
		s := full()
		s.Put(object(i), x)
		s.Put(table(), bits(all()...))
		wantNone(t, store.Look(s), i)
		for _, typ := range append([]int{1, 2, 3, 4, -1}, far()...) {
			wantIs(t, store.Look(one(i, val(typ, 0, 0, ""))), i, typ, 0, 0)
		}
	}
}

func TestP10_1TheTableDoesNotDecide(t *testing.T) {
	for _, i := range all() {
		s := one(i, val(api.TFile, 2, 3, "abcd"))
		for _, x := range []api.Value{zero, bits(i), bits(but(i)...), bits(all()...), {N: [16]int{-1}}, {N: [16]int{math.MinInt}}} {
			s.Put(table(), x)
			wantIs(t, store.Look(s), i, api.TFile, 2, 4)
			wantNone(t, store.Look(s), i%15+1)
		}
	}
}

func TestP10_1LinksAreNotHolders(t *testing.T) {
	for _, n := range append([]int{0, 1, -1, 2}, far()...) {
		wantIs(t, store.Look(one(3, val(api.TFile, n, 7, ""))), 3, api.TFile, n, 0)
		wantIs(t, store.Look(one(3, val(api.TFile, 7, n, ""))), 3, api.TFile, 7, 0)
		wantIs(t, store.Look(one(3, val(api.TFile, 0, n, ""))), 3, api.TFile, 0, 0)
	}
}

// Size counts bytes, be they noughts or parts of letters, and be there more than MaxFile.
func TestP10_1SizeCountsBytes(t *testing.T) {
	for _, s := range []string{"", "a", "\x00", "\x00\x00a\x00", "é", "水水", "\xff\xfe", strings.Repeat("x", 127), strings.Repeat("x", 128), strings.Repeat("x", 129), strings.Repeat("水", 5000)} {
		wantIs(t, store.Look(one(5, val(api.TFile, 1, 1, s))), 5, api.TFile, 1, len(s))
	}
}

func TestP10_2AllInTurn(t *testing.T) {
	v := store.Look(store.New())
	for _, i := range all() {
		wantAlloc(t, v, 100+i, i, true)
		wantHas(t, v, table(), bits(all()[:i]...))
		for _, other := range all()[:i] {
			wantIs(t, v, other, 100+other, 0, 0)
			wantHas(t, v, object(other), val(100+other, 0, 0, ""))
		}
		for _, other := range all()[i:] {
			wantNone(t, v, other)
		}
	}
	for range 3 {
		wantAlloc(t, v, api.TFile, 0, false)
		wantHas(t, v, table(), bits(all()...))
	}
	wantHas(t, v, object(0), zero)
	for _, i := range all() {
		wantHas(t, v, object(i), val(100+i, 0, 0, ""))
	}
}

// Every table there may be of the bits of sixteen inodes: bit 0 is no matter, and stays.
func TestP10_2EveryTable(t *testing.T) {
	for n := range 1 << maxInodes {
		want := 0
		for _, i := range all() {
			if n>>i%2 == 0 {
				want = i
				break
			}
		}
		s := store.New()
		s.Put(table(), api.Value{N: [16]int{n}})
		v := store.Look(s)
		wantAlloc(t, v, api.TFile, want, want > 0)
		if want > 0 {
			wantHas(t, v, table(), api.Value{N: [16]int{n + 1<<want}})
		} else {
			wantHas(t, v, table(), api.Value{N: [16]int{n}})
		}
	}
}

// Whatever the object has, none of it is left; the table, and not the object, decides what is had.
func TestP10_2AllElseIsZero(t *testing.T) {
	for _, i := range all() {
		s := full()
		s.Put(table(), bits(but(i)...))
		v := store.Look(s)
		wantAlloc(t, v, api.TDevice, i, true)
		wantHas(t, v, object(i), val(api.TDevice, 0, 0, ""))
		wantHas(t, v, table(), bits(all()...))
		wantAlloc(t, v, api.TDevice, 0, false)
	}
}

func TestP10_2AnyType(t *testing.T) {
	for _, typ := range append([]int{0, 1, 2, 3, 4, -1, -2}, far()...) {
		v := store.Look(full())
		v.Put(table(), bits(1, 2))
		wantAlloc(t, v, typ, 3, true)
		wantHas(t, v, object(3), val(typ, 0, 0, ""))
		wantHas(t, v, table(), bits(1, 2, 3))
		if inode.Is(v, 3) != (typ != 0) || inode.Type(v, 3) != typ {
			t.Errorf("had of type %d: %v, %d", typ, inode.Is(v, 3), inode.Type(v, 3))
		}
	}
}

func TestP10_2HadAgain(t *testing.T) {
	v := store.Look(store.New())
	for range all() {
		inode.Alloc(v, api.TFile)
	}
	for _, gone := range [][]int{{1}, {15}, {8}, {7, 3}, {3, 7}, {15, 1, 9}, {14, 15}, all()} {
		for _, i := range gone {
			wantWrite(t, v, i, 0, "left", 4)
			wantChange(t, v, i, 0, 0, true)
		}
		wantHas(t, v, table(), bits(but(gone...)...))
		for _, i := range slices.Sorted(slices.Values(gone)) {
			wantAlloc(t, v, api.TDir, i, true)
			wantIs(t, v, i, api.TDir, 0, 0)
			wantRead(t, v, i, 0, 9, "")
		}
		wantAlloc(t, v, api.TDir, 0, false)
	}
}
