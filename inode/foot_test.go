package inode_test

import (
	"math"
	"slices"
	"testing"

	"cloister/api"
	"cloister/inode"
	"cloister/store"
)

// deed does one call, or some.
type deed func(v *store.View)

// wantFoot does the deed through a new view of s, and wants what was read, what was written with its values, and that
// s is as it was.
func wantFoot(t *testing.T, what string, s *store.Store, d deed, reads []api.Key, redo ...api.Write) {
	t.Helper()
	was, v := s.Twin(), store.Look(s)
	d(v)
	if got := v.Reads(); !slices.Equal(got, reads) {
		t.Errorf("%s: read %v, not %v", what, got, reads)
	}
	if got := v.Redo(); !slices.Equal(got, redo) {
		t.Errorf("%s: written %v, not %v", what, got, redo)
	}
	for _, k := range row() {
		if s.Get(k) != was.Get(k) {
			t.Errorf("%s: the store's %v has changed", what, k)
		}
	}
}

func put(k api.Key, x api.Value) api.Write { return api.Write{Key: k, Value: x} }

// asks are the calls that write nothing, whatever they are asked.
func asks(i int) []deed {
	return []deed{
		func(v *store.View) { inode.Is(v, i) },
		func(v *store.View) { inode.Type(v, i) },
		func(v *store.View) { inode.Links(v, i) },
		func(v *store.View) { inode.Size(v, i) },
		func(v *store.View) { inode.Read(v, i, 0, 9) },
		func(v *store.View) { inode.Read(v, i, 0, 0) },
		func(v *store.View) { inode.Read(v, i, -1, 9) },
		func(v *store.View) { inode.Read(v, i, 999, 9) },
		func(v *store.View) { inode.Read(v, i, math.MinInt, math.MinInt) },
		func(v *store.View) { inode.Read(v, i, math.MaxInt, math.MaxInt) },
		func(v *store.View) { inode.Write(v, i, -1, "abc") },
		func(v *store.View) { inode.Write(v, i, 129, "abc") },
		func(v *store.View) { inode.Write(v, i, 999, "") },
		func(v *store.View) { inode.Write(v, i, math.MinInt, "abc") },
		func(v *store.View) { inode.Write(v, i, math.MaxInt, "") },
	}
}

// wants are the calls that would write, were i an inode.
func wants(i int) []deed {
	return []deed{
		func(v *store.View) { inode.Write(v, i, 0, "abc") },
		func(v *store.View) { inode.Write(v, i, 0, "") },
		func(v *store.View) { inode.Change(v, i, 1, 1) },
		func(v *store.View) { inode.Change(v, i, 0, 0) },
		func(v *store.View) { inode.Change(v, i, math.MinInt, math.MinInt) },
	}
}

func TestP10_1AskingReadsTheInodeAlone(t *testing.T) {
	for _, s := range []*store.Store{store.New(), full()} {
		for _, i := range all() {
			for _, d := range asks(i) {
				wantFoot(t, "an ask", s, d, keys(object(i)))
			}
		}
		for _, i := range strangers() {
			for _, d := range append(asks(i), wants(i)...) {
				wantFoot(t, "an ask of what can be none", s, d, nil)
			}
		}
	}
}

func TestP10_2AllocReadsTheTableAlone(t *testing.T) {
	for _, i := range all() {
		s := full()
		was := s.Get(table())
		was.N[0] = bits(but(i)...).N[0]
		s.Put(table(), was)
		then := was
		then.N[0] = bits(all()...).N[0]
		wantFoot(t, "Alloc", s, func(v *store.View) { inode.Alloc(v, -9) }, keys(table()), put(table(), then), put(object(i), val(-9, 0, 0, "")))
	}
	for _, typ := range []int{0, 1, math.MinInt} {
		wantFoot(t, "Alloc", store.New(), func(v *store.View) { inode.Alloc(v, typ) }, keys(table()), put(table(), bits(1)), put(object(1), val(typ, 0, 0, "")))
	}
}

// A refused Alloc has read the table, and written nothing; bit 0, and those that are no inode's, don't matter.
func TestP10_2AllocOfOddTables(t *testing.T) {
	full16 := 1<<16 - 1
	for _, n := range []int{full16, full16 - 1, full16 | 1<<16, -1, -2, full16 | math.MinInt, math.MaxInt, math.MaxInt - 1} {
		s := full()
		used := s.Get(table())
		used.N[0] = n
		s.Put(table(), used)
		wantAlloc(t, store.Look(s), api.TFile, 0, false)
		wantFoot(t, "a refused Alloc", s, func(v *store.View) { inode.Alloc(v, 1) }, keys(table()))
	}
	for _, n := range []int{0, 1, 1 << 16, 1 << 31, 1 << 32, 1 << 62, math.MinInt, -1 << 16, -1<<16 | 1, -1 << 63} {
		for _, i := range all() {
			s := full()
			used := s.Get(table())
			used.N[0] = n | bits(all()[:i-1]...).N[0]
			s.Put(table(), used)
			used.N[0] |= 1 << i
			wantAlloc(t, store.Look(s), 7, i, true)
			wantFoot(t, "Alloc", s, func(v *store.View) { inode.Alloc(v, 7) }, keys(table()), put(table(), used), put(object(i), val(7, 0, 0, "")))
		}
	}
}

func TestP10_3ChangeReadsTheTableAtTheEndAlone(t *testing.T) {
	for _, i := range all() {
		s := full()
		x, used := s.Get(object(i)), s.Get(table())
		for _, q := range [][2]int{{0, 0}, {1, 0}, {0, 1}, {-1, 2}, {-x.N[1], 0}, {0, -x.N[2]}, {-9999, 0}, {0, -9999}} {
			then := x
			then.N[1] += q[0]
			then.N[2] += q[1]
			wantFoot(t, "Change", s, func(v *store.View) { inode.Change(v, i, q[0], q[1]) }, keys(object(i)), put(object(i), then))
		}
		used.N[0] &^= 1 << i
		for _, q := range [][2]int{{-x.N[1], -x.N[2]}, {-9999, -x.N[2]}, {-x.N[1], -9999}, {-9999, -9999}} {
			wantFoot(t, "Change", s, func(v *store.View) { inode.Change(v, i, q[0], q[1]) }, keys(table(), object(i)), put(table(), used), put(object(i), zero))
		}
	}
}

// An inode that goes is written, and so is its table, even if both are what they were; so is a change of nothing.
func TestP10_3WrittenEvenAsItWas(t *testing.T) {
	s := one(9, val(api.TFile, 0, 0, ""))
	wantFoot(t, "Change", s, func(v *store.View) { inode.Change(v, 9, 0, 0) }, keys(table(), object(9)), put(table(), zero), put(object(9), zero))
	s = one(9, val(api.TFile, 1, 0, "abc"))
	wantFoot(t, "Change", s, func(v *store.View) { inode.Change(v, 9, 0, 0) }, keys(object(9)), put(object(9), val(api.TFile, 1, 0, "abc")))
}

func TestP10_5WriteReadsAndWritesTheInodeAlone(t *testing.T) {
	for _, i := range all() {
		s := full()
		for off := range len(s.Get(object(i)).S) + 1 {
			for _, d := range []string{"", "a", "abc", text(200)} {
				x := s.Get(object(i))
				x.S, _ = over(x.S, off, d)
				wantFoot(t, "Write", s, func(v *store.View) { inode.Write(v, i, off, d) }, keys(object(i)), put(object(i), x))
			}
		}
	}
}

// An empty write is written, and so is one that is cut to nothing.
func TestP10_5EmptyWrites(t *testing.T) {
	for _, size := range []int{0, 1, 64, 128, 200} {
		x := val(api.TFile, 0, 1, text(size))
		for off := 0; off <= min(size, maxFile); off++ {
			wantFoot(t, "an empty Write", one(4, x), func(v *store.View) { wantWrite(t, v, 4, off, "", 0) }, keys(object(4)), put(object(4), x))
		}
		if size >= maxFile {
			wantFoot(t, "a Write at MaxFile", one(4, x), func(v *store.View) { wantWrite(t, v, 4, 128, "abc", 0) }, keys(object(4)), put(object(4), x))
		}
	}
}

// What is no inode is read, as its type must be asked, and nothing else is; nothing is written.
func TestRefusedCallsReadTheInodeAlone(t *testing.T) {
	for _, i := range all() {
		s := full()
		x := s.Get(object(i))
		x.N[0] = 0
		s.Put(object(i), x)
		for _, d := range append(asks(i), wants(i)...) {
			wantFoot(t, "a refused call", s, d, keys(object(i)))
			wantFoot(t, "a refused call of a new store", store.New(), d, keys(object(i)))
		}
	}
}

// What a view wrote is what it reads; whoever looks at the store sees nothing of it until it is put there.
func TestP10_6ThroughTheView(t *testing.T) {
	s := store.New()
	v, w := store.Look(s), store.Look(s)
	wantAlloc(t, v, api.TFile, 1, true)
	wantWrite(t, v, 1, 0, "abc", 3)
	wantNone(t, w, 1)
	wantAlloc(t, w, api.TDir, 1, true)
	wantWrite(t, w, 1, 0, "other", 5)
	wantRead(t, v, 1, 0, 9, "abc")
	wantRead(t, w, 1, 0, 9, "other")
	lay(s, v)
	wantRead(t, w, 1, 0, 9, "other")
	u := store.Look(s)
	wantIs(t, u, 1, api.TFile, 0, 3)
	wantRead(t, u, 1, 0, 9, "abc")
	wantAlloc(t, u, api.TFile, 2, true)
}
