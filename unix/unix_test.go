package unix_test

import (
	"math"
	"slices"
	"testing"

	"cloister/api"
	"cloister/key"
	"cloister/store"
	"cloister/unix"
)

// The limits and the numbers, by hand: the tests hold the package against these.
const (
	maxProcs  = 8
	maxFd     = 6
	maxSize   = 6
	maxPages  = 64
	pageLen   = 16
	maxFiles  = 12
	maxPipes  = 4
	maxPipe   = 16
	maxInodes = 16
	maxFile   = 128
	maxPath   = 60
	maxTyped  = 64
	registers = 8
	root      = 1

	done, fails, blocks, gone = 0, 1, 2, 3

	dirType, fileType, deviceType = 1, 2, 3
	node, reader, writer          = 1, 2, 3
	reads, writes, both           = 1, 2, 3
	alive, zombie                 = 1, 2

	hWrite, hBoth, hCreate = 1, 2, 512
	making                 = hBoth + hCreate
)

// least and most are the ends of all numbers.
const (
	least = math.MinInt
	most  = math.MaxInt
)

var zero = api.Value{}

func clock() api.Key { return api.Key{Kind: api.KClock} }

func pool() api.Key { return api.Key{Kind: api.KPool} }

func procs() api.Key { return api.Key{Kind: api.KProcs} }

func process(p int) api.Key { return api.Key{Kind: api.KProc, N: p} }

func files() api.Key { return api.Key{Kind: api.KFiles} }

func fileOf(f int) api.Key { return api.Key{Kind: api.KFile, N: f} }

func pipes() api.Key { return api.Key{Kind: api.KPipes} }

func pipeOf(q int) api.Key { return api.Key{Kind: api.KPipe, N: q} }

func inodes() api.Key { return api.Key{Kind: api.KInodes} }

func inodeOf(i int) api.Key { return api.Key{Kind: api.KInode, N: i} }

func cons() api.Key { return api.Key{Kind: api.KCons} }

func memory(p int) api.Key { return api.Key{Kind: api.KMem, N: p} }

func keys(l ...api.Key) []api.Key { return l }

// objects is the row, made once: most tests go along it at every call.
var objects = row()

// row has all objects.
func row() []api.Key {
	var l []api.Key
	for place := range key.All() {
		k, _ := key.At(place)
		l = append(l, k)
	}
	return l
}

// val is a value whose first numbers are these.
func val(l ...int) api.Value {
	var x api.Value
	copy(x.N[:], l)
	return x
}

// lined is a value with a text.
func lined(s string, l ...int) api.Value {
	x := val(l...)
	x.S = s
	return x
}

func put(k api.Key, x api.Value) api.Write { return api.Write{Key: k, Value: x} }

// raw are these numbers as bytes.
func raw(l ...int) string {
	var b []byte
	for _, n := range l {
		b = append(b, byte(n))
	}
	return string(b)
}

// ink are n bytes, none of them nought, and each another one than that of most other places.
func ink(n int) string {
	b := make([]byte, n)
	for i := range b {
		b[i] = byte(1 + i*7%255)
	}
	return string(b)
}

func noughts(n int) string { return string(make([]byte, n)) }

// entry is a directory's, by hand.
func entry(s string, i int) string { return s + noughts(14-len(s)) + raw(i, i>>8) }

// from are n numbers, each one above the one ahead.
func from(first, n int) []int {
	var l []int
	for i := range n {
		l = append(l, first+i)
	}
	return l
}

// far are numbers far from all that a call may be given; some of them are near if bits of them are lost.
func far() []int {
	return []int{
		256, 999, 1 << 16, 1<<31 - 1, 1 << 31, 1 << 32, 1<<32 + 1, 1 << 60, 1<<60 + 1, 1 << 62, most - 1, most,
		-256, -999, -1 << 31, -1 << 32, -1<<32 + 1, -1 << 60, -1 << 62, least + 2, least + 1, least,
	}
}

// strangers are no processes, whatever the objects have.
func strangers() []int { return append([]int{8, 9, 16, 63, 64, 65, 72, -1, -2, -7, -8, -64}, far()...) }

// set puts what the object has into the store, but for one number.
func set(s *store.Store, k api.Key, at, n int) {
	x := s.Get(k)
	x.N[at] = n
	s.Put(k, x)
}

// write puts what the object has into the store, but for its text.
func write(s *store.Store, k api.Key, text string) {
	x := s.Get(k)
	x.S = text
	s.Put(k, x)
}

// lay puts what a call tells to be written.
func lay(s *store.Store, l []api.Write) {
	for _, w := range l {
		s.Put(w.Key, w.Value)
	}
}

func call(num int, l ...int) api.Call {
	l = append(l, 0, 0, 0)
	return api.Call{Num: num, A: l[0], B: l[1], C: l[2]}
}

// wantHas wants of an object what it has, all of it.
func wantHas(t *testing.T, s *store.Store, k api.Key, want api.Value) {
	t.Helper()
	if got := s.Get(k); got != want {
		t.Errorf("object %v has %v %q, not %v %q", k, got.N, got.S, want.N, want.S)
	}
}

// wantSame wants of all objects that both stores have the same.
func wantSame(t *testing.T, what string, s, was *store.Store) {
	t.Helper()
	for _, k := range objects {
		if s.Get(k) != was.Get(k) {
			t.Errorf("%s: object %v has %v, not %v", what, k, s.Get(k), was.Get(k))
		}
	}
}

// wantAct wants all of an act.
func wantAct(t *testing.T, what string, got, want api.Act) {
	t.Helper()
	if got.Ret != want.Ret || got.Status != want.Status {
		t.Errorf("%s: it answers %d, %d, not %d, %d", what, got.Ret, got.Status, want.Ret, want.Status)
	}
	if !slices.Equal(got.Pages, want.Pages) {
		t.Errorf("%s: on their way are %v, not %v", what, got.Pages, want.Pages)
	}
	if !slices.Equal(got.Reads, want.Reads) {
		t.Errorf("%s: read %v, not %v", what, got.Reads, want.Reads)
	}
	if !slices.Equal(got.Redo, want.Redo) {
		t.Errorf("%s: written %v, not %v", what, got.Redo, want.Redo)
	}
}

// sys is a store, of which calls are done one after the other.
type sys struct {
	t *testing.T
	s *store.Store
}

// boot gives the first process pages of its own, if there are enough.
func boot(t *testing.T, pages, own int) *sys {
	t.Helper()
	x := &sys{t, unix.Boot(pages)}
	x.is(0, 0, api.CBrk, own)
	return x
}

// act does a call, holds it against what is told of it, and writes what it says.
func (x *sys) act(p, num int, l ...int) api.Act {
	x.t.Helper()
	a := wantTold(x.t, x.s, p, call(num, l...))
	lay(x.s, a.Redo)
	return a
}

// is: a call is done, and answers this.
func (x *sys) is(want, p, num int, l ...int) {
	x.t.Helper()
	if a := x.act(p, num, l...); a.Ret != want || a.Status != done {
		x.t.Fatalf("call %d %v of %d: %d, %d, not %d", num, l, p, a.Ret, a.Status, want)
	}
}

// refuses: a call is refused, and reads just these.
func (x *sys) refuses(read []api.Key, p, num int, l ...int) {
	x.t.Helper()
	a := x.act(p, num, l...)
	wantAct(x.t, "a refused call", a, api.Act{Ret: -1, Reads: read})
	if x.t.Failed() {
		x.t.Fatalf("call %d %v of %d", num, l, p)
	}
}

// blocks: a call does, and writes nothing.
func (x *sys) blocks(p, num int, l ...int) {
	x.t.Helper()
	if a := x.act(p, num, l...); a.Ret != 0 || a.Status != blocks || len(a.Redo)+len(a.Pages) > 0 {
		x.t.Fatalf("call %d %v of %d: %v", num, l, p, a)
	}
}

// goes: a process ends, and these pages are on their way.
func (x *sys) goes(pages []int, p, num int, l ...int) {
	x.t.Helper()
	if a := x.act(p, num, l...); a.Ret != 0 || a.Status != gone || !slices.Equal(a.Pages, pages) {
		x.t.Fatalf("call %d %v of %d: %v", num, l, p, a)
	}
}

// text stores a text and a nought at an address.
func (x *sys) text(p, addr int, s string) {
	x.t.Helper()
	for i, b := range []byte(s + "\x00") {
		x.is(0, p, api.CStore, addr+i, int(b))
	}
}

// path: a call of a path, which is stored at 0 ahead of it, answers this.
func (x *sys) path(want, p, num int, s string, l ...int) {
	x.t.Helper()
	x.text(p, 0, s)
	x.is(want, p, num, append([]int{0}, l...)...)
}

// mem wants what stands in a process's memory.
func (x *sys) mem(p, addr int, want string) {
	x.t.Helper()
	for i := range len(want) {
		x.is(int(want[i]), p, api.CLoad, addr+i)
	}
}

// run does a deed that is no call, and writes what it says.
func (x *sys) run(d api.Deed) {
	x.t.Helper()
	a := unix.Run(x.s, d)
	if a.Ret != 0 || a.Status != done || len(a.Pages) > 0 {
		x.t.Fatal(a)
	}
	lay(x.s, a.Redo)
}

// numbers wants the first numbers of an object; all others must be 0.
func (x *sys) numbers(k api.Key, l ...int) {
	x.t.Helper()
	if got := x.s.Get(k).N; got != val(l...).N {
		x.t.Errorf("object %v has %v, not %v", k, got, l)
	}
}

func TestLimits(t *testing.T) {
	if api.MaxProcs != maxProcs || api.MaxFd != maxFd || api.MaxSize != maxSize || api.MaxPages != maxPages || api.PageLen != pageLen || api.MaxFiles != maxFiles || api.MaxPipes != maxPipes || api.MaxPipe != maxPipe || api.MaxInodes != maxInodes || api.MaxFile != maxFile || api.MaxPath != maxPath || api.MaxTyped != maxTyped || api.Registers != registers || api.Root != root {
		t.Error("limits")
	}
	for i, n := range []int{api.Done, api.Fails, api.Blocks, api.Gone} {
		if n != i {
			t.Error("states", i, n)
		}
	}
	for i, n := range []int{api.TDir, api.TFile, api.TDevice, api.XInode, api.XReader, api.XWriter, api.MRead, api.MWrite, both, api.PAlive, api.PZombie, api.HWrite, api.HBoth} {
		if want := []int{dirType, fileType, deviceType, node, reader, writer, reads, writes, both, alive, zombie, hWrite, hBoth}[i]; n != want {
			t.Error("kinds", i, n)
		}
	}
}

// The numbers of the chapter's own.
func TestRuns(t *testing.T) {
	x := &sys{t, unix.Boot(8)}
	x.is(0, 0, api.CBrk, 2)
	x.text(0, 0, "/f")
	x.is(0, 0, api.COpen, 0, api.HBoth|api.HCreate)
	x.is(2, 0, api.CWrite, 0, 0, 2)
	x.is(2, 0, api.CFork)
	x.goes(from(2, 2), 1, api.CExit, 7)
	x.is(2, 0, api.CWait, 5)
	x.is(7, 0, api.CLoad, 5)
	wantHas(t, x.s, inodeOf(2), lined("/f", fileType, 1, 1))
}
