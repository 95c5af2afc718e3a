package path_test

import (
	"slices"
	"strings"
	"testing"

	"cloister/dir"
	"cloister/inode"
	"cloister/path"
	"cloister/store"
)

// somePaths lead everywhere in tree, and nowhere: all of so many names, and some more.
func somePaths(longest int) []string {
	return append(rows([]string{"a", "b", "c", "f", "gone", ".", ".."}, longest), "/last/last", "last//a/", "/a/b/fourteen.bytes", "no", "/no/a", "dev", "dev/a", "/a/b/c/d", "//", "a//b//")
}

// wantNameMore wants a path to be what its parent has under the last name.
func wantNameMore(t *testing.T, v *store.View, cwd int, p string) {
	t.Helper()
	n, ok := path.Walk(v, cwd, p)
	d, s, had := path.Parent(v, cwd, p)
	if !had {
		if strings.Trim(p, "/") != "" && ok {
			t.Errorf("Walk(%d, %q) is %d, and there is no parent", cwd, p, n)
		}
		return
	}
	i, found := dir.Find(v, d, s)
	if ok != (found && inode.Is(v, i)) || ok && n != i {
		t.Errorf("Walk(%d, %q) is %d, %v, and its parent %d has %d, %v there", cwd, p, n, ok, d, i, found)
	}
	wantWalk(t, v, d, s, n)
}

func TestP12_4ParentAndANameMore(t *testing.T) {
	v := tree().view()
	for _, p := range somePaths(4) {
		for cwd := range maxInodes + 1 {
			wantNameMore(t, v, cwd, p)
		}
	}
}

// A name behind a path: the path's end is the parent, if it is a directory.
func TestP12_4NameBehind(t *testing.T) {
	v := tree().view()
	for _, p := range somePaths(3) {
		for _, cwd := range []int{0, 1, 2, 3, 5, 7, 9, 15} {
			n, ok := path.Walk(v, cwd, p)
			if p == "" {
				n, ok = cwd, inode.Is(v, cwd)
			}
			for _, s := range []string{"a", "c", "new", ".", "fourteen.bytes"} {
				longer := strings.TrimPrefix(p+"/"+s, "/")
				if strings.HasPrefix(p, "/") {
					longer = p + "/" + s
				}
				if ok && dir.Is(v, n) {
					wantParent(t, v, cwd, longer, n, s)
				} else {
					wantParent(t, v, cwd, longer, 0, "")
				}
				wantNameMore(t, v, cwd, longer)
			}
		}
	}
}

// From Root and from elsewhere: where the first half of a path ends, the other half begins.
func TestP12_4InTwoHalves(t *testing.T) {
	v := tree().view()
	names := []string{"a", "b", "c", "f", ".", ".."}
	halves := slices.DeleteFunc(rows(names, 2), func(p string) bool { return p == "" })
	for _, p := range halves {
		for _, q := range halves {
			if strings.HasPrefix(q, "/") {
				continue
			}
			want := 0
			if n, ok := path.Walk(v, 2, p); ok {
				want, _ = path.Walk(v, n, q)
			}
			wantWalk(t, v, 2, p+"/"+q, want)
			wantWalk(t, v, 2, p+"//"+q+"/", want)
		}
	}
	for _, q := range halves {
		if !strings.HasPrefix(q, "/") {
			n, _ := path.Walk(v, 1, q)
			wantWalk(t, v, 8, "/"+q, n)
		}
	}
}
