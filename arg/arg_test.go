package arg_test

import (
	"math"
	"slices"
	"strings"
	"testing"

	"cloister/api"
	"cloister/arg"
	"cloister/key"
	"cloister/space"
	"cloister/store"
)

// The limits, by hand: the tests hold the package against these.
const (
	maxProcs = 8
	maxSize  = 6
	pageLen  = 16
)

var zero = api.Value{}

func table() api.Key { return api.Key{Kind: api.KProcs} }

func process(p int) api.Key { return api.Key{Kind: api.KProc, N: p} }

func memory(p int) api.Key { return api.Key{Kind: api.KMem, N: p} }

func keys(l ...api.Key) []api.Key { return l }

// one is a byte as a text.
func one(b int) string { return string([]byte{byte(b)}) }

func noughts(n int) string { return string(make([]byte, n)) }

// ink are n bytes, none of them nought, and each another one than those about it.
func ink(n int) string {
	b := make([]byte, n)
	for i := range b {
		b[i] = byte(1 + i*7%255)
	}
	return string(b)
}

// mixed are n bytes, told by a sum that goes round; about one of as many is nought.
func mixed(n, many int) string {
	b, sum := make([]byte, n), uint32(n*31+many)
	for i := range b {
		sum = sum*1664525 + 1013904223
		if sum>>8%uint32(many) != 0 {
			b[i] = byte(sum>>16) | 1
		}
	}
	return string(b)
}

// over is a text with d over its bytes from addr on.
func over(text string, addr int, d string) string {
	return text[:addr] + d + text[addr+len(d):]
}

func put(k api.Key, x api.Value) api.Write { return api.Write{Key: k, Value: x} }

// with puts these into the store.
func with(s *store.Store, l ...api.Write) *store.Store {
	for _, w := range l {
		s.Put(w.Key, w.Value)
	}
	return s
}

// has is what the object has, but for its text.
func has(s *store.Store, k api.Key, text string) api.Value {
	x := s.Get(k)
	x.S = text
	return x
}

// write puts what the object has into the store, but for its text.
func write(s *store.Store, k api.Key, text string) { s.Put(k, has(s, k, text)) }

// all are the processes there may be.
func all() []int {
	var l []int
	for p := range maxProcs {
		l = append(l, p)
	}
	return l
}

// sizes are those of memories of as many pages as there may be, and about them, and of some that no pages make.
func sizes() []int {
	l := []int{1, 2, 3, 5, 8, 200, 257}
	for n := range maxSize + 1 {
		l = append(l, max(n*pageLen-1, 0), n*pageLen, n*pageLen+1)
	}
	return l
}

// far are numbers far from every place; some of them are near to one if bits of them are lost.
func far() []int {
	return []int{
		999, 1 << 10, 1 << 16, 1<<16 + 1, 1<<31 - 1, 1 << 31, 1 << 32, 1<<32 + 1, 1<<32 + 5, 1 << 60, 1<<60 + 1, 1 << 62, 1<<62 + 1, 3 << 61, math.MaxInt - 8, math.MaxInt - 1, math.MaxInt,
		-999, -1 << 10, -1 << 16, -1<<16 + 1, -1 << 31, -1<<31 + 1, -1<<32 + 1, -1 << 32, -1 << 60, -1<<60 + 1, -1 << 62, -3 << 61, math.MinInt, math.MinInt + 1, math.MinInt + 8,
	}
}

// strangers are no processes.
func strangers() []int {
	return append([]int{8, 9, 10, 15, 16, 31, 32, 63, 64, 65, 71, 72, 128, 256, -1, -2, -7, -8, -9, -57, -63, -64, -256}, far()...)
}

func row() []api.Key {
	var l []api.Key
	for place := range key.All() {
		k, _ := key.At(place)
		l = append(l, k)
	}
	return l
}

// full is a store in which every object has numbers at all places, and bytes, of its own; process p has these bytes of
// memory.
func full(mem ...string) *store.Store {
	s := store.New()
	for place, k := range row() {
		x := api.Value{S: strings.Repeat(string(rune('a'+place)), 3+place%9)}
		for i := range x.N {
			x.N[i] = 100*place + i + 3
		}
		s.Put(k, x)
	}
	for p, text := range mem {
		write(s, memory(p), text)
	}
	return s
}

// made is a store in which only process p's memory has something.
func made(p int, mem string) *store.Store {
	return with(store.New(), put(memory(p), api.Value{S: mem}))
}

// lay puts what was written through the view into the store.
func lay(s *store.Store, v *store.View) { with(s, v.Redo()...) }

func wantBytes(t *testing.T, v *store.View, p, addr int, want string) {
	t.Helper()
	if got, ok := arg.Bytes(v, p, addr, len(want)); got != want || !ok {
		t.Errorf("Bytes(%d, %d, %d): %q, %v, not %q", p, addr, len(want), got, ok, want)
	}
}

func wantNoBytes(t *testing.T, v *store.View, p, addr, n int) {
	t.Helper()
	if got, ok := arg.Bytes(v, p, addr, n); got != "" || ok {
		t.Errorf("Bytes(%d, %d, %d): %q, %v", p, addr, n, got, ok)
	}
}

func wantText(t *testing.T, v *store.View, p, addr, most int, want string) {
	t.Helper()
	if got, ok := arg.Text(v, p, addr, most); got != want || !ok {
		t.Errorf("Text(%d, %d, %d): %q, %v, not %q", p, addr, most, got, ok, want)
	}
}

func wantNoText(t *testing.T, v *store.View, p, addr, most int) {
	t.Helper()
	if got, ok := arg.Text(v, p, addr, most); got != "" || ok {
		t.Errorf("Text(%d, %d, %d): %q, %v", p, addr, most, got, ok)
	}
}

func wantPut(t *testing.T, v *store.View, p, addr int, d string, want bool) {
	t.Helper()
	if got := arg.Put(v, p, addr, d); got != want {
		t.Errorf("Put(%d, %d, %q): %v", p, addr, d, got)
	}
}

// wantHas wants that the object, seen through the view, has x and nothing else.
func wantHas(t *testing.T, v *store.View, k api.Key, x api.Value) {
	t.Helper()
	if got := v.Get(k); got != x {
		t.Errorf("object %v has %v, not %v", k, got, x)
	}
}

// wantMem wants that p's memory has these bytes.
func wantMem(t *testing.T, v *store.View, p int, want string) {
	t.Helper()
	if got := v.Get(memory(p)).S; got != want {
		t.Errorf("memory of %d: %q, not %q", p, got, want)
	}
}

// wantRedo wants that these objects were written, and no other.
func wantRedo(t *testing.T, v *store.View, redo ...api.Write) {
	t.Helper()
	if got := v.Redo(); !slices.Equal(got, redo) {
		t.Errorf("written %v, not %v", got, redo)
	}
}

func TestLimits(t *testing.T) {
	got := [...]int{api.MaxProcs, api.MaxSize, api.PageLen}
	if want := [...]int{maxProcs, maxSize, pageLen}; got != want {
		t.Error(got)
	}
}

// The chapter's runs, of each process.
func TestRuns(t *testing.T) {
	for _, p := range all() {
		v := store.Look(made(p, noughts(16)))
		wantPut(t, v, p, 3, "ab", true)
		wantText(t, v, p, 3, 5, "ab")
		wantNoText(t, v, p, 3, 1)
		wantBytes(t, v, p, 14, "\x00\x00")
		wantNoBytes(t, v, p, 15, 2)
		wantPut(t, v, p, 15, "ab", false)
		wantMem(t, v, p, "\x00\x00\x00ab"+noughts(11))
	}
}

// From each address on, and as many as there are: one byte more is none at all.
func TestP17_1EachPlace(t *testing.T) {
	for i, size := range sizes() {
		p := i % maxProcs
		for _, mem := range []string{ink(size), noughts(size), mixed(size, 3)} {
			v := store.Look(made(p, mem))
			for addr := range size + 1 {
				for n := range size - addr + 1 {
					wantBytes(t, v, p, addr, mem[addr:addr+n])
				}
				wantNoBytes(t, v, p, addr, size-addr+1)
				wantNoBytes(t, v, p, addr, size-addr+2)
				wantNoBytes(t, v, p, addr, size+1)
			}
			wantRedo(t, v)
		}
	}
}

// No bytes are had at each address up to the size, and nowhere else.
func TestP17_1NoBytes(t *testing.T) {
	for i, size := range sizes() {
		p := i % maxProcs
		v := store.Look(made(p, ink(size)))
		for addr := range size + 1 {
			wantBytes(t, v, p, addr, "")
		}
		for addr := 1; addr < 2*pageLen; addr++ {
			wantNoBytes(t, v, p, size+addr, 0)
			wantNoBytes(t, v, p, -addr, 0)
		}
		for _, addr := range far() {
			wantNoBytes(t, v, p, addr, 0)
		}
	}
}

// Fewer than none are none, wherever they are asked: bytes ahead of an address aren't behind it.
func TestP17_1FewerThanNone(t *testing.T) {
	for i, size := range sizes() {
		p := i % maxProcs
		v := store.Look(made(p, ink(size)))
		for addr := -3; addr < size+4; addr++ {
			for _, n := range []int{-1, -2, -addr, -size, -size - 1, math.MinInt, math.MinInt + addr, -1 << 32} {
				if n < 0 {
					wantNoBytes(t, v, p, addr, n)
				}
			}
		}
	}
}

// Numbers whose sum, gone round, would be a place; and all others of which one is far.
func TestP17_1FarNumbers(t *testing.T) {
	for _, size := range []int{0, 1, 16, 96, 257} {
		v := store.Look(made(5, ink(size)))
		near := []int{0, 1, 2, 15, 16, size - 1, size, -1, -2, -size}
		for _, a := range far() {
			for _, b := range slices.Concat(near, far(), []int{-a, size - a, size + a, 1 - a, a - 1, ^a}) {
				wantNoBytes(t, v, 5, a, b)
				wantNoBytes(t, v, 5, b, a)
			}
		}
		wantRedo(t, v)
	}
}

// A byte may be any.
func TestP17_1EveryByte(t *testing.T) {
	each := ""
	for b := range 256 {
		each += one(b)
	}
	for _, p := range all() {
		v := store.Look(made(p, each))
		for b := range 256 {
			wantBytes(t, v, p, b, one(b))
		}
		wantBytes(t, v, p, 0, each)
	}
}

// Memory is its object's bytes: neither the process's state and pages, nor the table, nor a number, is asked.
func TestP17_1MemoryAlone(t *testing.T) {
	for _, p := range all() {
		for _, x := range []api.Value{zero, {S: "\x01\x02"}, {N: [16]int{api.PAlive}}, {N: [16]int{api.PZombie}, S: ink(9)}} {
			for _, used := range []int{0, -1, 1 << p, 255 - 1<<p} {
				s := full()
				with(s, put(process(p), x), put(table(), api.Value{N: [16]int{used}}))
				write(s, memory(p), "bytes\x00")
				v := store.Look(s)
				wantBytes(t, v, p, 0, "bytes\x00")
				wantText(t, v, p, 1, 9, "ytes")
				wantPut(t, v, p, 5, "!", true)
				wantPut(t, v, p, 5, "!!", false)
				wantMem(t, v, p, "bytes!")
			}
		}
	}
}

// Who is no process has memory without bytes, wherever others have some.
func TestP17_1Strangers(t *testing.T) {
	s := full(ink(40), noughts(40), ink(40), noughts(40), ink(40), noughts(40), ink(40), noughts(40))
	for _, p := range strangers() {
		v := store.Look(s)
		wantBytes(t, v, p, 0, "")
		wantNoBytes(t, v, p, 0, 1)
		wantNoBytes(t, v, p, 1, 0)
		wantNoBytes(t, v, p, -1, 0)
		wantNoBytes(t, v, p, 0, -1)
		wantNoText(t, v, p, 0, 9)
		wantNoText(t, v, p, 0, 0)
		wantNoText(t, v, p, -1, 0)
		wantPut(t, v, p, 0, "x", false)
		wantPut(t, v, p, 1, "", false)
		wantPut(t, v, p, -1, "", false)
		wantPut(t, v, p, 0, "", true)
		wantRedo(t, v)
	}
}

// What space gives is there to be written, and what it takes back isn't any more.
func TestMemoryOfPages(t *testing.T) {
	s := store.New()
	with(s, put(table(), api.Value{N: [16]int{255}}), put(api.Key{Kind: api.KPool}, api.Value{N: [16]int{-1}}))
	for _, p := range all() {
		s.Put(process(p), api.Value{N: [16]int{api.PAlive}})
		v := store.Look(s)
		wantPut(t, v, p, 0, "x", false)
		for n := range maxSize {
			space.Grow(v, p, 1)
			wantBytes(t, v, p, n*pageLen, noughts(pageLen))
			wantPut(t, v, p, n*pageLen, ink(pageLen), true)
			wantPut(t, v, p, n*pageLen+1, ink(pageLen), false)
			wantNoText(t, v, p, 0, 200)
		}
		wantMem(t, v, p, strings.Repeat(ink(pageLen), maxSize))
		space.Shrink(v, p, 2)
		wantPut(t, v, p, 4*pageLen-1, "", true)
		wantPut(t, v, p, 4*pageLen, "", true)
		wantPut(t, v, p, 4*pageLen, "x", false)
		wantNoBytes(t, v, p, 4*pageLen, 1)
		space.Grow(v, p, 1)
		wantText(t, v, p, 4*pageLen-1, 1, ink(pageLen)[pageLen-1:])
	}
}
