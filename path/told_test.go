package path_test

import (
	"slices"
	"strconv"
	"strings"
	"testing"

	"cloister/api"
	"cloister/store"
)

// What a path must lead to is told here from the world's bytes, without the packages that path stands on.

// namesOf are the names of a path, and whether it is one.
func namesOf(p string) ([]string, bool) {
	l := strings.FieldsFunc(p, func(r rune) bool { return r == '/' })
	wrong := func(s string) bool { return len(s) > maxName || strings.Contains(s, "\x00") }
	return l, len(p) >= 1 && len(p) <= maxPath && !slices.ContainsFunc(l, wrong)
}

// found is the number under the name, or 0.
func (w world) found(d int, s string) int {
	b := w[d].bytes
	for at := 0; at < maxFile && at+entrySize <= len(b) && w[d].typ == api.TDir; at += entrySize {
		held, _, _ := strings.Cut(b[at:at+maxName], "\x00")
		number := int(b[at+maxName]) + 256*int(b[at+maxName+1])
		if held == s && number > 0 && number < maxInodes {
			return number
		}
	}
	return 0
}

// told is where a way ends, or 0, and the inodes that were looked at.
type told struct {
	end   int
	looks []int
}

// come looks at what may be an inode, and ends there, or nowhere.
func (x told) come(w world, n int) told {
	if n < 1 || n >= maxInodes {
		return told{0, x.looks}
	}
	looks := append(x.looks, n)
	if w[n].typ == 0 {
		return told{0, looks}
	}
	return told{n, looks}
}

func (w world) way(cwd int, p string, l []string) told {
	if strings.HasPrefix(p, "/") {
		cwd = root
	}
	x := told{}.come(w, cwd)
	for _, s := range l {
		if x.end == 0 {
			return x
		}
		x = x.come(w, w.found(x.end, s))
	}
	return x
}

// walk is what Walk must answer and read.
func (w world) walk(cwd int, p string) told {
	l, ok := namesOf(p)
	if !ok {
		return told{}
	}
	return w.way(cwd, p, l)
}

// parent is what Parent must answer and read.
func (w world) parent(cwd int, p string) (told, string) {
	l, ok := namesOf(p)
	if !ok || len(l) == 0 {
		return told{}, ""
	}
	x := w.way(cwd, p, l[:len(l)-1])
	if x.end == 0 || w[x.end].typ != api.TDir {
		return told{0, x.looks}, ""
	}
	return x, l[len(l)-1]
}

func (x told) reads() []api.Key {
	l := slices.Clone(x.looks)
	slices.Sort(l)
	return objects(slices.Compact(l)...)
}

// wantAsTold wants both calls' answers as told.
func wantAsTold(t *testing.T, v *store.View, w world, cwd int, p string) {
	t.Helper()
	wantWalk(t, v, cwd, p, w.walk(cwd, p).end)
	x, last := w.parent(cwd, p)
	wantParent(t, v, cwd, p, x.end, last)
}

// wantAllAsTold wants what both calls read and write as told, too.
func wantAllAsTold(t *testing.T, s *store.Store, w world, cwd int, p string) {
	t.Helper()
	v := store.Look(s)
	x := w.walk(cwd, p)
	wantWalk(t, v, cwd, p, x.end)
	wantNoted(t, v, x.reads())
	v = store.Look(s)
	x, last := w.parent(cwd, p)
	wantParent(t, v, cwd, p, x.end, last)
	wantNoted(t, v, x.reads())
	if t.Failed() {
		t.Fatalf("path %q from %d in %v", p, cwd, w)
	}
}

// The tellings by hand, of a way that ends and of some that don't.
func TestTellings(t *testing.T) {
	w := tree()
	for _, q := range []struct {
		cwd    int
		p      string
		walk   told
		parent told
		last   string
	}{
		{5, "/a/b", told{5, []int{1, 2, 5}}, told{2, []int{1, 2}}, "b"}, {2, "b/./c", told{0, []int{2, 5}}, told{0, []int{2, 5}}, ""}, {2, "../a/", told{2, []int{2, 1, 2}}, told{1, []int{2, 1}}, "a"},
		{1, "/", told{1, []int{1}}, told{}, ""}, {0, "a", told{}, told{}, ""}, {9, "a", told{0, []int{9}}, told{0, []int{9}}, ""}, {1, "f/a", told{0, []int{1, 3}}, told{0, []int{1, 3}}, ""}, {1, "gone", told{0, []int{1, 9}}, told{1, []int{1}}, "gone"},
		{1, "no", told{0, []int{1}}, told{1, []int{1}}, "no"}, {1, "", told{}, told{}, ""}, {1, "fourteen bytes!", told{}, told{}, ""}, {1, strings.Repeat("/", 61), told{}, told{}, ""}, {1, "a\x00", told{}, told{}, ""},
	} {
		x := w.walk(q.cwd, q.p)
		y, last := w.parent(q.cwd, q.p)
		if x.end != q.walk.end || !slices.Equal(x.looks, q.walk.looks) || y.end != q.parent.end || !slices.Equal(y.looks, q.parent.looks) || last != q.last {
			t.Errorf("%q from %d: %v, %v, %q", q.p, q.cwd, x, y, last)
		}
	}
}

// nodes are what an inode may be here: nothing, a file, or a directory of one or two names for one of four numbers,
// some of whose entries are free.
func nodes() []node {
	l := []node{{0, folder("a:1 b:2").bytes}, {api.TFile, folder("a:2 b:3").bytes}}
	for a := range 4 {
		for b := range 4 {
			l = append(l, folder("a:"+strconv.Itoa(a)+" b:"+strconv.Itoa(b)))
		}
	}
	return l
}

// rows are all paths of up to so many of the names, from Root and from elsewhere.
func rows(names []string, many int) []string {
	l, longest := []string{""}, []string{""}
	for range many {
		var longer []string
		for _, p := range longest {
			for _, s := range names {
				longer = append(longer, p+"/"+s)
			}
		}
		l, longest = append(l, longer...), longer
	}
	for _, p := range l[1:] {
		l = append(l, p[1:])
	}
	return append(l, "/")
}

// All worlds of three inodes that are anything, and all short paths there.
func TestAllSmallWorlds(t *testing.T) {
	l, paths := nodes(), rows([]string{"a", "b"}, 3)
	for code := range len(l) * len(l) * len(l) {
		w := world{1: l[code%len(l)], 2: l[code/len(l)%len(l)], 3: l[code/len(l)/len(l)]}
		v := w.view()
		for i, p := range paths {
			wantAsTold(t, v, w, 1+(i+code)%3, p)
		}
		if t.Failed() {
			t.Fatal(w)
		}
	}
}

// All short texts of letters, slashes and dots, from each beginning.
func TestAllShortPaths(t *testing.T) {
	w := world{1: folder("a:2 .:1 ..:1 b:3"), 2: folder("a:3 b:2 ..:1 aa:4"), 3: {api.TFile, folder("a:1").bytes}, 4: folder(".:2 ...:3")}
	v := w.view()
	for n := range 7 {
		b := make([]byte, n)
		for code := range 1 << (2 * n) {
			for i := range b {
				b[i] = "/a.b"[code>>(2*i)&3]
			}
			wantAsTold(t, v, w, code%6, string(b))
			wantAsTold(t, v, w, 2, string(b))
		}
		if t.Failed() {
			return
		}
	}
}

// Worlds and paths by a sum that goes round: inodes of all kinds, directories of any entries, paths of any pieces.
func TestAnyWorlds(t *testing.T) {
	sum := uint32(1)
	next := func(many int) int {
		sum = sum*1664525 + 1013904223
		return int(sum>>8) % many
	}
	names := []string{"a", "b", "c", ".", "..", "ab", "fourteen.bytes", "\xff", "水"}
	pieces := append([]string{"/", "/", "//", "x", "fourteen", ".", "\x00"}, names...)
	for range 2000 {
		w := world{}
		for i := 1; i < maxInodes; i++ {
			var b string
			for range next(11) {
				b += entry(names[next(len(names))], next(40)*next(3))
			}
			w[i] = node{[]int{0, 1, 1, 1, 1, 1, 2, 3, -1}[next(9)], b + "some bytes"[:next(11)]}
		}
		w[1] = node{api.TDir, w[1].bytes}
		s := w.store()
		for range 20 {
			p := []string{"", "/"}[next(2)]
			for range next(20) {
				p += pieces[next(len(pieces))]
				if next(8) > 0 {
					p += "/"
				}
			}
			wantAllAsTold(t, s, w, next(18)-1, p)
		}
	}
}
