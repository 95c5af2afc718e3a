package unix

import (
	"cloister/api"
	"cloister/arg"
	"cloister/dir"
	"cloister/inode"
	"cloister/path"
)

// text is the path at an address, if one ends in time there.
func (w *work) text(addr int) (string, bool) { return arg.Text(w.v, w.p, addr, api.MaxPath) }

// walk is the inode that the path at an address leads to.
func (w *work) walk(addr int) (int, bool) {
	s, ok := w.text(addr)
	if !ok {
		return 0, false
	}
	return path.Walk(w.v, w.cwd(), s)
}

// parent is the directory that the path at an address leads to, and the name in it.
func (w *work) parent(addr int) (int, string, bool) {
	s, ok := w.text(addr)
	if !ok {
		return 0, "", false
	}
	return path.Parent(w.v, w.cwd(), s)
}

func (w *work) cwd() int { return w.process().N[atDir] }

// room is parent for who makes a name: none is made in a directory that no name leads to.
func (w *work) room(addr int) (int, string, bool) {
	d, s, ok := w.parent(addr)
	if !ok || inode.Links(w.v, d) <= 0 {
		return 0, "", false
	}
	return d, s, true
}

// findOrCreate is what has the name already, but for directories, or a new file.
func (w *work) findOrCreate(addr int) (int, bool) {
	d, s, ok := w.room(addr)
	if !ok {
		return 0, false
	}
	i, found := dir.Find(w.v, d, s)
	if !found {
		return w.create(d, s, api.TFile)
	}
	if !inode.Is(w.v, i) || dir.Is(w.v, i) {
		return 0, false
	}
	return i, true
}

func (w *work) makeNode(addr, typ int) answer {
	d, s, ok := w.room(addr)
	if !ok {
		return refused()
	}
	if _, found := dir.Find(w.v, d, s); found {
		return refused()
	}
	_, ok = w.create(d, s, typ)
	return zeroIf(ok)
}

// create makes the name that leads to the inode its one link. What was done ahead of a failure is not told by anybody.
func (w *work) create(d int, s string, typ int) (int, bool) {
	i, ok := inode.Alloc(w.v, typ)
	if !ok || !dir.Add(w.v, d, s, i) || !inode.Change(w.v, i, 1, 0) {
		return 0, false
	}
	if typ == api.TDir && !w.furnish(i, d) {
		return 0, false
	}
	return i, true
}

// furnish gives a directory its two names, of which the one that leads up is a link of where it leads; the one that
// leads to itself is none, or it would keep itself.
func (w *work) furnish(i, d int) bool {
	return dir.Add(w.v, i, ".", i) && dir.Add(w.v, i, "..", d) && inode.Change(w.v, d, 1, 0)
}

// unlink takes a name; what it led to goes only if nobody holds it. What it was is asked ahead of that.
func (w *work) unlink(addr int) answer {
	d, s, ok := w.parent(addr)
	if !ok || s == "." || s == ".." {
		return refused()
	}
	i, found := dir.Find(w.v, d, s)
	if !found || !inode.Is(w.v, i) {
		return refused()
	}
	isDir := dir.Is(w.v, i)
	if isDir && !dir.Bare(w.v, i) {
		return refused()
	}
	dir.Remove(w.v, d, s)
	if isDir {
		inode.Change(w.v, d, -1, 0)
	}
	return zeroIf(inode.Change(w.v, i, -1, 0))
}

// link asks for both paths ahead of any way: they stand in one memory. Directories have one name, so that all ways
// down end.
func (w *work) link(from, to int) answer {
	s, ok := w.text(from)
	if !ok {
		return refused()
	}
	if _, ok := w.text(to); !ok {
		return refused()
	}
	i, ok := path.Walk(w.v, w.cwd(), s)
	if !ok || dir.Is(w.v, i) {
		return refused()
	}
	d, s, ok := w.room(to)
	return zeroIf(ok && dir.Add(w.v, d, s, i) && inode.Change(w.v, i, 1, 0))
}

// chdir holds the one ahead of letting go of the other: they may be the same.
func (w *work) chdir(addr int) answer {
	i, ok := w.walk(addr)
	if !ok || !dir.Is(w.v, i) {
		return refused()
	}
	inode.Change(w.v, i, 0, 1)
	inode.Change(w.v, w.cwd(), 0, -1)
	set(w.v, w.p, atDir, i)
	return done(0)
}
