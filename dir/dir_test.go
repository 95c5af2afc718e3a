package dir_test

import (
	"math"
	"slices"
	"strings"
	"testing"

	"cloister/api"
	"cloister/dir"
	"cloister/inode"
	"cloister/key"
	"cloister/store"
)

// The limits, by hand: the tests hold the package against these.
const (
	maxInodes = 16
	maxName   = 14
	maxFile   = 128
	entrySize = 16
)

func object(i int) api.Key { return api.Key{Kind: api.KInode, N: i} }

func names(l ...string) []string { return l }

// val is an inode's value: all its numbers but the type are there and of no matter here.
func val(typ int, bytes string) api.Value {
	x := api.Value{S: bytes}
	for i := range x.N {
		x.N[i] = 70 + i
	}
	x.N[0] = typ
	return x
}

// one is a store that has x as inode d and nothing else.
func one(d int, x api.Value) *store.Store {
	s := store.New()
	s.Put(object(d), x)
	return s
}

// at1 is a view in which inode 1 is a directory of these bytes, and nothing else is there.
func at1(bytes string) *store.View { return store.Look(one(1, val(api.TDir, bytes))) }

// full is a store in which all inodes, and what is none as well, are directories of bytes of their own.
func full() *store.Store {
	s := store.New()
	for place, k := range row() {
		s.Put(k, val(api.TDir, entry("a", place%15+1)+entry("free", 0)+entry("own"+string(rune('a'+place)), 3)))
	}
	return s
}

func row() []api.Key {
	var l []api.Key
	for place := range key.All() {
		k, _ := key.At(place)
		l = append(l, k)
	}
	return l
}

// all are the inodes there may be.
func all() []int { return []int{1, 2, 3, 4, 5, 6, 7, 8, 9, 10, 11, 12, 13, 14, 15} }

// far are numbers far from every inode; some of them are near to one if bits of them are lost.
func far() []int {
	return []int{
		99, 255, 256, 257, 258, 1 << 12, 1<<16 - 1, 1 << 16, 1<<16 + 1, 1<<16 + 15, 1<<31 - 1, 1 << 31, 1 << 32, 1<<32 + 1, 1<<32 + 15, 1 << 62, 1<<62 + 1, math.MaxInt - 1, math.MaxInt,
		-99, -255, -256, -1<<16 + 1, -1 << 16, -1<<16 + 15, -1 << 31, -1<<32 + 1, -1 << 32, -1 << 62, -1<<62 + 1, math.MinInt, math.MinInt + 1,
	}
}

// strangers are no inodes, and no numbers of an entry.
func strangers() []int {
	return append([]int{0, 16, 17, 31, 32, 33, 64, 65, -1, -2, -15, -16}, far()...)
}

// wrongNames are no names; some are one but for a byte, or begin with one.
func wrongNames() []string {
	return []string{
		"", "/", "\x00", "a/", "/a", "a/b", "a\x00", "\x00a", "a\x00b", "//", "./", "../", "..\x00", "own/", strings.Repeat("x", maxName+1), strings.Repeat("x", maxName-1) + "/", strings.Repeat("x", maxName-1) + "\x00",
		strings.Repeat("x", maxName) + "\x00", strings.Repeat("x", maxName) + "/", strings.Repeat("y", 256), strings.Repeat("a", 257), strings.Repeat("水", 5), strings.Repeat("x", 1<<16+1),
	}
}

func wantFind(t *testing.T, v *store.View, d int, s string, n int) {
	t.Helper()
	if i, ok := dir.Find(v, d, s); i != n || ok != (n != 0) {
		t.Errorf("Find(%d, %q): %d, %v, not %d", d, s, i, ok, n)
	}
}

func wantAdd(t *testing.T, v *store.View, d int, s string, i int, want bool) {
	t.Helper()
	if ok := dir.Add(v, d, s, i); ok != want {
		t.Errorf("Add(%d, %q, %d): %v", d, s, i, ok)
	}
}

func wantRemove(t *testing.T, v *store.View, d int, s string, want bool) {
	t.Helper()
	if ok := dir.Remove(v, d, s); ok != want {
		t.Errorf("Remove(%d, %q): %v", d, s, ok)
	}
}

func wantNames(t *testing.T, v *store.View, d int, want []string) {
	t.Helper()
	if l := dir.Names(v, d); !slices.Equal(l, want) {
		t.Errorf("Names(%d): %q, not %q", d, l, want)
	}
}

func wantBare(t *testing.T, v *store.View, d int, want bool) {
	t.Helper()
	if ok := dir.Bare(v, d); ok != want {
		t.Errorf("Bare(%d): %v", d, ok)
	}
}

// wantBytes wants that inode d, seen through the view, is a directory that has these bytes, and has kept all else.
func wantBytes(t *testing.T, v *store.View, d int, bytes string) {
	t.Helper()
	if x := v.Get(object(d)); x != val(api.TDir, bytes) {
		t.Errorf("inode %d has %v, not %q", d, x, bytes)
	}
}

// wantNone wants that all calls tell that d is no directory, and change nothing.
func wantNone(t *testing.T, v *store.View, d int) {
	t.Helper()
	was := v.Redo()
	if dir.Is(v, d) {
		t.Errorf("%d is a directory", d)
	}
	for _, s := range []string{"a", "own", "free", ".", ""} {
		wantFind(t, v, d, s, 0)
		wantAdd(t, v, d, s, 3, false)
		wantRemove(t, v, d, s, false)
	}
	wantAdd(t, v, d, "new", 3, false)
	wantNames(t, v, d, nil)
	wantBare(t, v, d, true)
	if !slices.Equal(v.Redo(), was) {
		t.Errorf("of %d, which is no directory: written %v", d, v.Redo())
	}
}

func TestLimits(t *testing.T) {
	if api.MaxInodes != maxInodes || api.MaxName != maxName || api.MaxFile != maxFile || api.Entry != entrySize {
		t.Error(api.MaxInodes, api.MaxName, api.MaxFile, api.Entry)
	}
}

func TestRuns(t *testing.T) {
	v := store.Look(store.New())
	if i, ok := inode.Alloc(v, api.TDir); i != 1 || !ok {
		t.Fatal(i, ok)
	}
	wantAdd(t, v, 1, "a", 3, true)
	wantAdd(t, v, 1, "b", 4, true)
	wantRemove(t, v, 1, "a", true)
	wantAdd(t, v, 1, "c", 5, true)
	wantNames(t, v, 1, names("c", "b"))
	wantFind(t, v, 1, "a", 0)
	wantAdd(t, v, 1, "b", 6, false)
	wantFind(t, v, 1, "b", 4)
	wantFind(t, v, 1, "c", 5)
}

func TestP11_1Is(t *testing.T) {
	for _, d := range all() {
		v := store.Look(one(d, val(api.TDir, entry("a", 3))))
		if !dir.Is(v, d) {
			t.Errorf("%d is no directory", d)
		}
		for _, other := range all() {
			if other != d {
				wantNone(t, v, other)
			}
		}
		wantNone(t, v, 0)
		wantBytes(t, v, d, entry("a", 3))
	}
}

func TestP11_1NoDirectory(t *testing.T) {
	for _, d := range strangers() {
		wantNone(t, store.Look(full()), d)
	}
	for _, d := range all() {
		wantNone(t, store.Look(store.New()), d)
		for _, typ := range append([]int{0, api.TFile, api.TDevice, 4, -1}, far()...) {
			x := val(typ, entry("a", 3)+entry("free", 0)+entry("own", 2))
			v := store.Look(one(d, x))
			wantNone(t, v, d)
			if v.Get(object(d)) != x {
				t.Errorf("inode %d of type %d has changed", d, typ)
			}
		}
	}
}

// The type alone decides: not the links, nor the holders, nor the table of those used, nor the bytes.
func TestP11_1TheTypeAloneDecides(t *testing.T) {
	for _, n := range append([]int{0, 1, -1}, far()...) {
		s := one(9, api.Value{N: [16]int{api.TDir, n, -n, n}, S: "no entry"})
		s.Put(api.Key{Kind: api.KInodes}, api.Value{N: [16]int{n}})
		if !dir.Is(store.Look(s), 9) {
			t.Errorf("with %d it is no directory", n)
		}
		wantAdd(t, store.Look(s), 9, "a", 3, true)
	}
}

// Each number that an entry may have: 1 to 15 are there, all others are free.
func TestP11_1EveryNumber(t *testing.T) {
	for n := range 1 << 16 {
		there := n >= 1 && n <= 15
		v := at1(entry("x", 2) + entry("a", n))
		if there {
			wantFind(t, v, 1, "a", n)
			wantNames(t, v, 1, names("x", "a"))
			wantAdd(t, v, 1, "b", 5, true)
			wantBytes(t, v, 1, entry("x", 2)+entry("a", n)+entry("b", 5))
			continue
		}
		wantFind(t, v, 1, "a", 0)
		wantNames(t, v, 1, names("x"))
		wantRemove(t, v, 1, "a", false)
		wantBytes(t, v, 1, entry("x", 2)+entry("a", n))
		wantAdd(t, v, 1, "a", 5, true)
		wantBytes(t, v, 1, entry("x", 2)+entry("a", 5))
	}
}

// Entries as far as they are whole and begin ahead of MaxFile: so many of each number of bytes.
func TestP11_1WholeAndAheadOfMaxFile(t *testing.T) {
	var bytes string
	for i := range 30 {
		bytes += entry("n"+string(rune('a'+i)), i%15+1)
	}
	for n := range len(bytes) + 1 {
		v := at1(bytes[:n])
		many := min(n/16, 8)
		for i := range 30 {
			want := 0
			if i < many {
				want = i%15 + 1
			}
			wantFind(t, v, 1, "n"+string(rune('a'+i)), want)
			wantRemove(t, at1(bytes[:n]), 1, "n"+string(rune('a'+i)), want > 0)
		}
		if l := dir.Names(v, 1); len(l) != many {
			t.Errorf("of %d bytes: %q", n, l)
		}
		wantBare(t, v, 1, n < 16)
	}
}

func TestP11_2Find(t *testing.T) {
	v := at1(entry(".", 1) + entry("..", 2) + entry("a", 3) + entry("free", 0) + entry("ab", 15) + entry("a", 7) + entry("fourteen bytes", 1))
	for s, n := range map[string]int{
		".": 1, "..": 2, "a": 3, "ab": 15, "fourteen bytes": 1,
		"...": 0, "free": 0, "A": 0, "b": 0, "abc": 0, "a ": 0, " a": 0, "aa": 0, "fourteen byte": 0, "fourteen bytes!": 0, "fourteen bytez": 0,
	} {
		wantFind(t, v, 1, s, n)
	}
}

func TestP11_2EveryPlace(t *testing.T) {
	for many := 1; many <= 8; many++ {
		for at := range many {
			for _, n := range all() {
				v := at1(strings.Repeat(entry("other", 4), at) + entry("it", n) + strings.Repeat(entry("it", 16-n), many-at-1))
				wantFind(t, v, 1, "it", n)
			}
		}
	}
}

// The first entry that is there: those ahead of it have the name and no number, or a number and another name.
func TestP11_2FirstThatIsThere(t *testing.T) {
	v := at1(entry("a", 0) + entry("a", 16) + entry("b", 5) + entry("a", 256) + entry("a", 65535) + entry("a", 9) + entry("a", 8))
	wantFind(t, v, 1, "a", 9)
	wantFind(t, v, 1, "b", 5)
	wantRemove(t, v, 1, "a", true)
	wantFind(t, v, 1, "a", 8)
	wantRemove(t, v, 1, "a", true)
	wantFind(t, v, 1, "a", 0)
}

// Names are right or aren't, and nobody finds one that isn't, though an entry may have it.
func TestP11_2WrongNames(t *testing.T) {
	v := at1(entry("", 3) + entry("/", 4) + entry("a/b", 5) + entry("a", 6) + entry(strings.Repeat("x", 13)+"/", 7) + entry(strings.Repeat("x", 14), 8) + entry("own/", 9) + entry("..", 2))
	was := v.Get(object(1)).S
	for _, s := range wrongNames() {
		wantFind(t, v, 1, s, 0)
		wantRemove(t, v, 1, s, false)
		wantAdd(t, v, 1, s, 3, false)
	}
	wantBytes(t, v, 1, was)
}

// A name ends ahead of its first nought, whatever stands behind that.
func TestP11_2BytesBehindANought(t *testing.T) {
	for n := range maxName {
		s := strings.Repeat("n", n)
		v := at1(s + "\x00" + strings.Repeat("z", maxName-n-1) + "\x05\x00")
		if n > 0 {
			wantFind(t, v, 1, s, 5)
		}
		wantNames(t, v, 1, names(s))
		wantFind(t, v, 1, s+"n", 0)
		wantFind(t, v, 1, s+"z", 0)
		wantAdd(t, v, 1, s, 6, false)
	}
}

// Each byte at each place of a name of each length.
func TestP11_2EveryByte(t *testing.T) {
	for n := 1; n <= maxName; n++ {
		for at := range n {
			for x := range 256 {
				s := strings.Repeat("n", at) + string([]byte{byte(x)}) + strings.Repeat("n", n-at-1)
				v := at1(entry("other", 2))
				if x == 0 || x == '/' {
					wantAdd(t, v, 1, s, 3, false)
					wantFind(t, v, 1, s, 0)
					wantBytes(t, v, 1, entry("other", 2))
					continue
				}
				wantAdd(t, v, 1, s, 3, true)
				wantBytes(t, v, 1, entry("other", 2)+entry(s, 3))
				wantFind(t, v, 1, s, 3)
				wantFind(t, v, 1, strings.Repeat("n", at)+string([]byte{byte(x) ^ 128})+strings.Repeat("n", n-at-1), 0)
				wantNames(t, v, 1, names("other", s))
			}
		}
	}
}
