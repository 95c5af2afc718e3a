package file_test

import (
	"math"
	"slices"
	"strings"
	"testing"

	"cloister/api"
	"cloister/file"
	"cloister/key"
	"cloister/store"
)

// The limits, by hand: the tests hold the package against these.
const (
	maxFiles = 12
	maxFile  = 128
	maxPipe  = 16
)

// What the calls answer, by hand too.
const (
	done = iota
	fails
	blocks
)

// Kinds of open files, modes, and types of inodes.
const (
	node   = 1
	reader = 2
	writer = 3

	reads  = 1
	writes = 2
	both   = 3

	dirType    = 1
	fileType   = 2
	deviceType = 3
)

var zero = api.Value{}

func table() api.Key { return api.Key{Kind: api.KFiles} }

func object(f int) api.Key { return api.Key{Kind: api.KFile, N: f} }

func pipes() api.Key { return api.Key{Kind: api.KPipes} }

func pipeOf(q int) api.Key { return api.Key{Kind: api.KPipe, N: q} }

func inodes() api.Key { return api.Key{Kind: api.KInodes} }

func inodeOf(i int) api.Key { return api.Key{Kind: api.KInode, N: i} }

func cons() api.Key { return api.Key{Kind: api.KCons} }

func keys(l ...api.Key) []api.Key { return l }

// val is an open file's value.
func val(kind, holders, what, offset, mode int) api.Value {
	return api.Value{N: [16]int{kind, holders, what, offset, mode}}
}

func inodeVal(typ, links, holders int, bytes string) api.Value {
	return api.Value{N: [16]int{typ, links, holders}, S: bytes}
}

func pipeVal(readers, writers int, bytes string) api.Value {
	return api.Value{N: [16]int{readers, writers}, S: bytes}
}

func consVal(count, sum int, typed string) api.Value {
	return api.Value{N: [16]int{count, sum}, S: typed}
}

// bits is a table's value with these bits.
func bits(l ...int) api.Value {
	x := api.Value{}
	for _, f := range l {
		x.N[0] |= 1 << f
	}
	return x
}

func put(k api.Key, x api.Value) api.Write { return api.Write{Key: k, Value: x} }

// with puts these into the store.
func with(s *store.Store, l ...api.Write) *store.Store {
	for _, w := range l {
		s.Put(w.Key, w.Value)
	}
	return s
}

// one is a store with the open file f, no other open file, and these objects.
func one(f int, x api.Value, l ...api.Write) *store.Store {
	return with(with(store.New(), put(table(), bits(f)), put(object(f), x)), l...)
}

// all are the open files there may be.
func all() []int { return []int{0, 1, 2, 3, 4, 5, 6, 7, 8, 9, 10, 11} }

// others are all but one.
func others(f int) []int { return append(all()[:f], all()[f+1:]...) }

// far are numbers far from every file, count and place; some of them are near to one if bits of them are lost.
func far() []int {
	return []int{
		999, 256, 1 << 16, 1<<16 + 1, 1<<31 - 1, 1 << 31, 1 << 32, 1<<32 + 1, 1<<32 + 3, 1 << 62, 1<<62 + 1, math.MaxInt - 1, math.MaxInt,
		-999, -256, -1 << 16, -1<<16 + 1, -1 << 31, -1<<32 + 1, -1 << 32, -1 << 62, -1<<62 + 1, math.MinInt, math.MinInt + 1,
	}
}

// strangers are no open files, whatever the objects have. A bit shifted by 64 and more is none, or, shifted round, a
// file's.
func strangers() []int {
	return append([]int{12, 13, 14, 15, 16, 31, 32, 33, 62, 63, 64, 65, 75, 76, 128, -1, -2, -3, -11, -12, -13, -52, -53, -63, -64}, far()...)
}

// oddTables are bits beyond the last file, and below nought; none of them is a file's.
func oddTables() []int {
	return []int{0, 1 << 12, 1 << 13, 1 << 16, 1 << 31, 1 << 32, 1 << 62, math.MinInt, -4096, math.MinInt | 4096, math.MaxInt &^ 4095}
}

// odd are some of these; every are the bits of all files.
const (
	odd   = 1<<62 | 1<<32 | 1<<12
	every = 4095
)

// counts are numbers of holders about 0, and some far from it.
func counts() []int {
	return []int{0, 1, 2, 3, -1, -2, -3, 1 << 32, -1 << 32, math.MaxInt, math.MaxInt - 1, math.MinInt, math.MinInt + 1, math.MinInt + 2}
}

// text is n bytes, no two of which within 200 are the same; some are noughts, and some are no letters.
func text(n int) string {
	b := make([]byte, n)
	for i := range b {
		b[i] = byte(37*i + i/256)
	}
	return string(b)
}

func row() []api.Key {
	var l []api.Key
	for place := range key.All() {
		k, _ := key.At(place)
		l = append(l, k)
	}
	return l
}

// full is a store in which every object has numbers at all places, and bytes, of its own; the table has these bits.
func full(used int) *store.Store {
	s := store.New()
	for place, k := range row() {
		x := api.Value{S: strings.Repeat(string(rune('a'+place)), 3+place%9)}
		for i := range x.N {
			x.N[i] = 100*place + i + 3
		}
		if k == table() {
			x.N[0] = used
		}
		s.Put(k, x)
	}
	return s
}

// lay puts what was written through the view into the store.
func lay(s *store.Store, v *store.View) { with(s, v.Redo()...) }

func wantIs(t *testing.T, v *store.View, f int, want bool) {
	t.Helper()
	if got := file.Is(v, f); got != want {
		t.Errorf("Is(%d): %v", f, got)
	}
}

// wantOpen wants -1 where none is to be had.
func wantOpen(t *testing.T, v *store.View, kind, what, mode, want int) {
	t.Helper()
	if f, ok := file.Open(v, kind, what, mode); f != max(want, 0) || ok != (want >= 0) {
		t.Errorf("Open(%d, %d, %d): %d, %v, not %d", kind, what, mode, f, ok, want)
	}
}

func wantDup(t *testing.T, v *store.View, f int, want bool) {
	t.Helper()
	if got := file.Dup(v, f); got != want {
		t.Errorf("Dup(%d): %v", f, got)
	}
}

func wantClose(t *testing.T, v *store.View, f int, want bool) {
	t.Helper()
	if got := file.Close(v, f); got != want {
		t.Errorf("Close(%d): %v", f, got)
	}
}

func wantRead(t *testing.T, v *store.View, f, n int, want string, state int) {
	t.Helper()
	if d, got := file.Read(v, f, n); d != want || got != state {
		t.Errorf("Read(%d, %d): %q, %d, not %q, %d", f, n, d, got, want, state)
	}
}

func wantWrite(t *testing.T, v *store.View, f int, d string, want, state int) {
	t.Helper()
	if n, got := file.Write(v, f, d); n != want || got != state {
		t.Errorf("Write(%d, %q): %d, %d, not %d, %d", f, d, n, got, want, state)
	}
}

func wantStat(t *testing.T, v *store.View, f int, want api.Stat) {
	t.Helper()
	if got, ok := file.Stat(v, f); got != want || !ok {
		t.Errorf("Stat(%d): %v, %v, not %v", f, got, ok, want)
	}
}

func wantNoStat(t *testing.T, v *store.View, f int) {
	t.Helper()
	if got, ok := file.Stat(v, f); got != (api.Stat{}) || ok {
		t.Errorf("Stat(%d): %v, %v, not none", f, got, ok)
	}
}

// wantDumb wants that f is neither read nor written nor told of, whatever else it is.
func wantDumb(t *testing.T, v *store.View, f int) {
	t.Helper()
	for _, n := range []int{0, 1, 9, -1, math.MaxInt, math.MinInt} {
		wantRead(t, v, f, n, "", fails)
	}
	for _, d := range []string{"", "x", text(17), text(129)} {
		wantWrite(t, v, f, d, -1, fails)
	}
	wantNoStat(t, v, f)
}

// wantNone wants that all calls tell that f is no open file.
func wantNone(t *testing.T, v *store.View, f int) {
	t.Helper()
	wantIs(t, v, f, false)
	wantDup(t, v, f, false)
	wantClose(t, v, f, false)
	wantDumb(t, v, f)
}

// wantHas wants that the object, seen through the view, has x and nothing else.
func wantHas(t *testing.T, v *store.View, k api.Key, x api.Value) {
	t.Helper()
	if got := v.Get(k); got != x {
		t.Errorf("object %v has %v, not %v", k, got, x)
	}
}

// wantRedo wants that these objects were written, and no other.
func wantRedo(t *testing.T, v *store.View, redo ...api.Write) {
	t.Helper()
	if got := v.Redo(); !slices.Equal(got, redo) {
		t.Errorf("written %v, not %v", got, redo)
	}
}

func TestLimits(t *testing.T) {
	got := [...]int{api.MaxFiles, api.MaxFile, api.MaxPipe, api.Done, api.Fails, api.Blocks, api.XInode, api.XReader, api.XWriter, api.MRead, api.MWrite, api.TDir, api.TFile, api.TDevice}
	if want := [...]int{maxFiles, maxFile, maxPipe, done, fails, blocks, node, reader, writer, reads, writes, dirType, fileType, deviceType}; got != want {
		t.Error(got)
	}
}

// The chapter's runs.
func TestRuns(t *testing.T) {
	v := store.Look(with(store.New(), put(inodes(), bits(1)), put(inodeOf(1), inodeVal(fileType, 1, 1, "abcdef"))))
	wantOpen(t, v, node, 1, reads, 0)
	wantRead(t, v, 0, 2, "ab", done)
	wantRead(t, v, 0, 2, "cd", done)
	wantDup(t, v, 0, true)
	wantClose(t, v, 0, true)
	wantRead(t, v, 0, 9, "ef", done)
	wantWrite(t, v, 0, "x", -1, fails)
	wantClose(t, v, 0, true)
	wantNone(t, v, 0)
	wantHas(t, v, table(), zero)
	wantHas(t, v, object(0), zero)
	wantHas(t, v, inodeOf(1), inodeVal(fileType, 1, 0, "abcdef"))
}

// Every table of the bits of all files, with bits beyond them and below nought: a bit is of its file alone.
func TestP14_1EveryTable(t *testing.T) {
	s := full(0)
	x := s.Get(table())
	for _, high := range oddTables() {
		for used := range 1 << maxFiles {
			x.N[0] = high + used
			s.Put(table(), x)
			v := store.Look(s)
			for _, f := range all() {
				wantIs(t, v, f, used>>f%2 == 1)
			}
			if used%37 != 0 {
				continue
			}
			for _, f := range all() {
				if used>>f%2 == 0 {
					wantNone(t, v, f)
				}
			}
			for _, f := range strangers() {
				wantNone(t, v, f)
			}
			wantRedo(t, v)
		}
	}
}

// The object doesn't decide: one with all that a file has is none without its bit, and one that is zero is one with it.
func TestP14_1TheTableAloneDecides(t *testing.T) {
	for _, f := range all() {
		for _, x := range []api.Value{zero, val(node, 1, 1, 0, both), val(reader, 1, 0, 0, reads), val(writer, 2, 0, 0, writes), val(9, -1, math.MinInt, 5, 0)} {
			s := with(store.New(), put(object(f), x), put(inodeOf(1), inodeVal(fileType, 1, 1, "abc")), put(pipes(), bits(0)), put(pipeOf(0), pipeVal(1, 1, "abc")))
			wantNone(t, store.Look(s), f)
			s.Put(table(), bits(others(f)...))
			wantNone(t, store.Look(s), f)
			s.Put(table(), bits(f))
			wantIs(t, store.Look(s), f, true)
			for _, other := range others(f) {
				wantNone(t, store.Look(s), other)
			}
		}
	}
}

// The bits are the table's first number: no other number of it, no text, and no other table is asked.
func TestP14_1WhereTheBitsStand(t *testing.T) {
	s := full(0)
	x := api.Value{S: text(99)}
	for i := range x.N {
		x.N[i] = -1
	}
	for _, k := range row() {
		if k != table() {
			s.Put(k, x)
		}
	}
	x.N[0] = 0
	s.Put(table(), x)
	for _, f := range all() {
		wantNone(t, store.Look(s), f)
	}
	s = with(store.New(), put(table(), bits(all()...)))
	for _, f := range all() {
		wantIs(t, store.Look(s), f, true)
	}
}

func TestP14_2AllInTurn(t *testing.T) {
	v := store.Look(store.New())
	for _, f := range all() {
		wantNone(t, v, f)
		wantOpen(t, v, f%3+1, f+20, f%4, f)
		wantHas(t, v, table(), bits(all()[:f+1]...))
		for _, had := range all()[:f+1] {
			wantIs(t, v, had, true)
			wantHas(t, v, object(had), val(had%3+1, 1, had+20, 0, had%4))
		}
	}
	for range 3 {
		wantOpen(t, v, node, 1, both, -1)
		wantHas(t, v, table(), bits(all()...))
	}
	for _, f := range all() {
		wantHas(t, v, object(f), val(f%3+1, 1, f+20, 0, f%4))
	}
}

// Whatever the table has beside the bit stays; whatever the object has goes.
func TestP14_2EveryTable(t *testing.T) {
	s := full(0)
	x := s.Get(table())
	for _, high := range oddTables() {
		for used := range 1 << maxFiles {
			want := 0
			for used>>want%2 == 1 {
				want++
			}
			x.N[0] = high + used
			s.Put(table(), x)
			v := store.Look(s)
			if want >= maxFiles {
				wantOpen(t, v, node, 5, both, -1)
				wantRedo(t, v)
				continue
			}
			then := x
			then.N[0] += 1 << want
			wantOpen(t, v, node, 5, both, want)
			wantRedo(t, v, put(table(), then), put(object(want), val(node, 1, 5, 0, both)))
		}
	}
}

// What it is given is kept as it is, whether there is such a kind, mode, inode or pipe; none of these is touched.
func TestP14_2WhateverItIsGiven(t *testing.T) {
	some := append([]int{-1, 0, 1, 2, 3, 4, 5, 15, 16, 17}, far()...)
	for _, x := range some {
		for _, y := range some {
			v := store.Look(full(odd | every - 1<<3))
			then := full(odd | every).Get(table())
			wantOpen(t, v, x, y, x^y, 3)
			wantRedo(t, v, put(table(), then), put(object(3), val(x, 1, y, 0, x^y)))
			wantOpen(t, v, x, y, x, -1)
			wantRedo(t, v, put(table(), then), put(object(3), val(x, 1, y, 0, x^y)))
		}
	}
}

// The least that isn't open is had, one ahead of others too, and has nothing of what it was.
func TestP14_2HadAgain(t *testing.T) {
	for _, gone := range [][]int{{0}, {1}, {11}, {0, 1}, {7, 3}, {11, 0}, {5, 6, 4}, {10, 11, 0, 2}, {11, 10, 9, 8, 7, 6, 5, 4, 3, 2, 1, 0}} {
		v := store.Look(with(store.New(), put(inodeOf(1), inodeVal(fileType, 1, 12, "abcdef"))))
		for _, f := range all() {
			wantOpen(t, v, node, 1, reads, f)
			wantRead(t, v, f, f%4+1, "abcdef"[:f%4+1], done)
		}
		for _, f := range gone {
			wantClose(t, v, f, true)
			wantNone(t, v, f)
			wantHas(t, v, object(f), zero)
		}
		for _, f := range all() {
			if slices.Contains(gone, f) {
				wantOpen(t, v, node, 1, writes, f)
				wantHas(t, v, object(f), val(node, 1, 1, 0, writes))
			} else {
				wantHas(t, v, object(f), val(node, 1, 1, f%4+1, reads))
			}
		}
		wantOpen(t, v, node, 1, reads, -1)
	}
}
