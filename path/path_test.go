package path_test

import (
	"math"
	"strconv"
	"strings"
	"testing"

	"cloister/api"
	"cloister/dir"
	"cloister/inode"
	"cloister/key"
	"cloister/path"
	"cloister/store"
)

// The limits, by hand: the tests hold the package against these.
const (
	maxInodes = 16
	maxName   = 14
	maxPath   = 60
	maxFile   = 128
	entrySize = 16
	root      = 1
)

func object(i int) api.Key { return api.Key{Kind: api.KInode, N: i} }

func objects(l ...int) []api.Key {
	var keys []api.Key
	for _, i := range l {
		keys = append(keys, object(i))
	}
	return keys
}

// node is what an inode's object has: its type and its bytes.
type node struct {
	typ   int
	bytes string
}

// world is the inodes that there are; all others are nothing.
type world map[int]node

// value is an inode's value: all its numbers but the type are there and of no matter here.
func value(x node) api.Value {
	l := api.Value{S: x.bytes}
	for i := range l.N {
		l.N[i] = 70 + i
	}
	l.N[0] = x.typ
	return l
}

// store has the world's inodes. What is none looks like a directory that has all names that the tests ask for, so that
// a way that leads there shows.
func (w world) store() *store.Store {
	s := store.New()
	for place := range key.All() {
		k, _ := key.At(place)
		if k.Kind != api.KInode || k.N == 0 {
			s.Put(k, value(folder("a:1 b:2 c:3 .:4 ..:5")))
		}
	}
	for i, x := range w {
		s.Put(object(i), value(x))
	}
	return s
}

func (w world) view() *store.View { return store.Look(w.store()) }

// entry is an entry of a name of MaxName bytes at most.
func entry(s string, n int) string {
	return s + strings.Repeat("\x00", maxName-len(s)) + string([]byte{byte(n % 256), byte(n / 256)})
}

// folder is a directory of names and numbers told as "a:2 b:3".
func folder(l string) node {
	var bytes string
	for _, f := range strings.Fields(l) {
		s, number, _ := strings.Cut(f, ":")
		n, err := strconv.Atoi(number)
		if err != nil {
			panic(l)
		}
		bytes += entry(s, n)
	}
	return node{api.TDir, bytes}
}

// tree has directories within directories, files and a device, names of what is gone, and a directory that has neither
// "." nor "..".
func tree() world {
	return world{
		1:  folder(".:1 ..:1 a:2 f:3 dev:4 last:15 gone:9 no:16"),
		2:  folder(".:2 ..:1 b:5 f:6 up:1 me:2"),
		3:  {api.TFile, folder("a:2 .:3 ..:1").bytes},
		4:  {api.TDevice, folder("a:2 .:4 ..:1").bytes},
		5:  folder("c:7 fourteen.bytes:8"),
		6:  {api.TFile, "some bytes"},
		7:  folder(".:7 ..:5 gone:10 d:8"),
		8:  folder(""),
		10: {0, folder("a:2 .:10 ..:1").bytes},
		15: folder(".:15 ..:1 last:15 a:2"),
	}
}

// far are numbers far from every inode; some of them are near to one if bits of them are lost.
func far() []int {
	return []int{
		99, 255, 256, 257, 258, 1 << 12, 1<<16 - 1, 1 << 16, 1<<16 + 1, 1<<16 + 15, 1<<31 - 1, 1 << 31, 1 << 32, 1<<32 + 1, 1<<32 + 15, 1 << 62, 1<<62 + 1, math.MaxInt - 1, math.MaxInt,
		-99, -255, -256, -1<<16 + 1, -1 << 16, -1<<16 + 15, -1 << 31, -1<<32 + 1, -1 << 32, -1 << 62, -1<<62 + 1, math.MinInt, math.MinInt + 1,
	}
}

// strangers can be no inodes, whatever the objects have.
func strangers() []int {
	return append([]int{0, 16, 17, 31, 32, 33, 64, 65, -1, -2, -15, -16}, far()...)
}

// wrongPaths are no paths, and some of them are told in words that only few bytes keep from being one.
func wrongPaths() []string {
	x := strings.Repeat("x", maxName)
	return []string{
		"", "\x00", "/\x00", "a\x00", "\x00a", "a\x00/b", "/a/\x00", "/a/b\x00", "/a\x00b", "/a/\x00/b", x + "y", "/" + x + "y", "/a/" + x + "y", x + "y/a", "/a/" + x + "y/b", "a//" + x + "y//", strings.Repeat("y", maxPath),
		strings.Repeat("/", maxPath+1), strings.Repeat("a/", 30) + "a", "/" + strings.Repeat("a/", 30), strings.Repeat("./", 30) + "/", strings.Repeat("/", 1000), strings.Repeat("/a", 1<<16), "a" + strings.Repeat("/", maxPath),
	}
}

// wantWalk wants 0 where there is none.
func wantWalk(t *testing.T, v *store.View, cwd int, p string, want int) {
	t.Helper()
	if n, ok := path.Walk(v, cwd, p); n != want || ok != (want != 0) {
		t.Errorf("Walk(%d, %q): %d, %v, not %d", cwd, p, n, ok, want)
	}
}

// wantParent wants 0 and the empty name where there is none.
func wantParent(t *testing.T, v *store.View, cwd int, p string, want int, last string) {
	t.Helper()
	if d, s, ok := path.Parent(v, cwd, p); d != want || s != last || ok != (want != 0) {
		t.Errorf("Parent(%d, %q): %d, %q, %v, not %d, %q", cwd, p, d, s, ok, want, last)
	}
}

// The chapter's runs.
func TestRuns(t *testing.T) {
	v := store.Look(store.New())
	for i, typ := range []int{api.TDir, api.TDir, api.TFile} {
		if n, ok := inode.Alloc(v, typ); n != i+1 || !ok {
			t.Fatal(n, ok)
		}
	}
	if !dir.Add(v, 1, "a", 2) || !dir.Add(v, 2, "b", 3) {
		t.Fatal("no room")
	}
	wantWalk(t, v, 1, "/a/b", 3)
	wantWalk(t, v, 2, "b", 3)
	wantParent(t, v, 1, "/a/c", 2, "c")
	wantWalk(t, v, 1, "/a/c", 0)
	wantParent(t, v, 1, "/", 0, "")
}
