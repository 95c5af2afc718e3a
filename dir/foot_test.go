package dir_test

import (
	"math"
	"slices"
	"strings"
	"testing"

	"cloister/api"
	"cloister/dir"
	"cloister/store"
)

// deed does one call, or some.
type deed func(v *store.View)

// wantFoot does the deed through a new view of s, and wants what was read, what was written with its values, and that
// s is as it was.
func wantFoot(t *testing.T, what string, s *store.Store, d deed, reads []api.Key, redo ...api.Write) {
	t.Helper()
	was, v := s.Twin(), store.Look(s)
	d(v)
	if got := v.Reads(); !slices.Equal(got, reads) {
		t.Errorf("%s: read %v, not %v", what, got, reads)
	}
	if got := v.Redo(); !slices.Equal(got, redo) {
		t.Errorf("%s: written %v, not %v", what, got, redo)
	}
	for _, k := range row() {
		if s.Get(k) != was.Get(k) {
			t.Errorf("%s: the store's %v has changed", what, k)
		}
	}
}

// asks are the calls that write nothing in a directory of full, whatever d is.
func asks(d int) []deed {
	l := []deed{
		func(v *store.View) { dir.Is(v, d) },
		func(v *store.View) { dir.Names(v, d) },
		func(v *store.View) { dir.Bare(v, d) },
		func(v *store.View) { dir.Find(v, d, "a") },
		func(v *store.View) { dir.Find(v, d, "nobody") },
		func(v *store.View) { dir.Remove(v, d, "nobody") },
		func(v *store.View) { dir.Remove(v, d, "free") },
		func(v *store.View) { dir.Add(v, d, "a", 3) },
		func(v *store.View) { dir.Add(v, d, "new", 0) },
		func(v *store.View) { dir.Add(v, d, "new", 16) },
		func(v *store.View) { dir.Add(v, d, "new", math.MinInt) },
		func(v *store.View) { dir.Add(v, d, "new", math.MaxInt) },
	}
	for _, s := range wrongNames() {
		l = append(l, func(v *store.View) { dir.Find(v, d, s) }, func(v *store.View) { dir.Remove(v, d, s) }, func(v *store.View) { dir.Add(v, d, s, 3) })
	}
	return l
}

// changes are the calls that write something in a directory of full.
func changes(d int) []deed {
	return []deed{
		func(v *store.View) { dir.Add(v, d, "new", 3) },
		func(v *store.View) { dir.Remove(v, d, "a") },
	}
}

func TestP11_6AskingReadsTheDirectoryAlone(t *testing.T) {
	for _, d := range all() {
		for _, ask := range asks(d) {
			wantFoot(t, "an ask", full(), ask, []api.Key{object(d)})
		}
	}
}

// What is no directory is read, as its type must be asked; of what can be no inode nothing is read.
func TestP11_6NoDirectory(t *testing.T) {
	for _, d := range all() {
		for _, typ := range []int{0, api.TFile, api.TDevice, -1, math.MaxInt} {
			s := full()
			x := s.Get(object(d))
			x.N[0] = typ
			s.Put(object(d), x)
			for _, f := range append(asks(d), changes(d)...) {
				wantFoot(t, "a call of no directory", s, f, []api.Key{object(d)})
			}
		}
	}
	for _, d := range strangers() {
		for _, f := range append(asks(d), changes(d)...) {
			wantFoot(t, "a call of no inode", full(), f, nil)
		}
	}
}

func TestP11_6ChangingWritesTheDirectoryAlone(t *testing.T) {
	for _, d := range all() {
		s := full()
		b := s.Get(object(d)).S
		for _, i := range all() {
			then := val(api.TDir, b[:16]+entry("new", i)+b[32:])
			wantFoot(t, "Add", s, func(v *store.View) { wantAdd(t, v, d, "new", i, true) }, []api.Key{object(d)}, api.Write{Key: object(d), Value: then})
		}
		then := val(api.TDir, strings.Repeat("\x00", 16)+b[16:])
		wantFoot(t, "Remove", s, func(v *store.View) { wantRemove(t, v, d, "a", true) }, []api.Key{object(d)}, api.Write{Key: object(d), Value: then})
	}
}

// A full directory, and one that is longer than any may be, refuse unwritten.
func TestP11_6NoRoom(t *testing.T) {
	for n := range 40 {
		b := strings.Repeat(entry("x", 3), 11)[:128+n]
		wantFoot(t, "Add", one(7, val(api.TDir, b)), func(v *store.View) { wantAdd(t, v, 7, "new", 3, false) }, []api.Key{object(7)})
	}
}

// What the directory's other numbers are, and who else is there, is neither asked nor changed.
func TestP11_6AllElseStays(t *testing.T) {
	s, l := full(), row()
	for _, d := range all() {
		for _, f := range append(asks(d), changes(d)...) {
			v := store.Look(s)
			f(v)
			for _, k := range l {
				x, was := v.Get(k), s.Get(k)
				if k == object(d) {
					x.S = was.S
				}
				if x != was {
					t.Fatalf("directory %d: %v has changed", d, k)
				}
			}
		}
	}
}

// What a view wrote is what it reads; whoever looks at the store sees nothing of it until it is put there.
func TestP11_6ThroughTheView(t *testing.T) {
	s := one(1, val(api.TDir, ""))
	v, w := store.Look(s), store.Look(s)
	wantAdd(t, v, 1, "a", 3, true)
	wantAdd(t, v, 1, "b", 4, true)
	wantFind(t, w, 1, "a", 0)
	wantAdd(t, w, 1, "a", 9, true)
	wantNames(t, w, 1, names("a"))
	wantFind(t, v, 1, "a", 3)
	lay(s, v)
	wantFind(t, w, 1, "a", 9)
	wantNames(t, store.Look(s), 1, names("a", "b"))
}

// lay puts what was written through the view into the store.
func lay(s *store.Store, v *store.View) {
	for _, w := range v.Redo() {
		s.Put(w.Key, w.Value)
	}
}
