package file_test

import (
	"testing"

	"cloister/api"
	"cloister/file"
	"cloister/inode"
	"cloister/pipe"
	"cloister/store"
)

// What files must be, told without objects.
type (
	plainFile struct {
		there                           bool
		kind, holders, what, at, access int
	}
	plainInode struct {
		typ, links, holders int
		bytes               []byte
	}
	plainPipe struct {
		there            bool
		readers, writers int
		bytes            []byte
	}
)

// stage has files, seen through one view after the other, and what they must be. Inode 1 has no link, and goes when
// nobody holds it; inode 2 is linked; inode 3 is the console.
type stage struct {
	row        []api.Key
	s          *store.Store
	v          *store.View
	files      [maxFiles]plainFile
	inodes     [4]plainInode
	pipes      [4]plainPipe
	typed      []byte
	count, sum int
	next       byte // which byte is written next
}

func newStage(t *testing.T, row []api.Key) *stage {
	t.Helper()
	s := store.New()
	g := &stage{row: row, s: s, v: store.Look(s)}
	for i, typ := range []int{fileType, fileType, deviceType} {
		if got, ok := inode.Alloc(g.v, typ); got != i+1 || !ok {
			t.Fatal(got, ok)
		}
		g.inodes[i+1] = plainInode{typ: typ}
		if i > 0 && inode.Change(g.v, i+1, 1, 0) {
			g.inodes[i+1].links = 1
		}
	}
	return g
}

// open opens the least file that isn't, if one is left.
func (g *stage) open(t *testing.T, kind, what, access int) bool {
	t.Helper()
	for f := range g.files {
		if !g.files[f].there {
			wantOpen(t, g.v, kind, what, access, f)
			g.files[f] = plainFile{there: true, kind: kind, holders: 1, what: what, access: access}
			return true
		}
	}
	wantOpen(t, g.v, kind, what, access, -1)
	return false
}

// openInode has the inode held by the file; inode 1 is had again, if it went.
func (g *stage) openInode(t *testing.T, i, access int) {
	t.Helper()
	if !g.open(t, node, i, access) {
		return
	}
	if g.inodes[i].typ == 0 {
		if got, ok := inode.Alloc(g.v, fileType); got != i || !ok {
			t.Errorf("inode %d, %v, not %d", got, ok, i)
		}
		g.inodes[i].typ = fileType
	}
	if !inode.Change(g.v, i, 0, 1) {
		t.Errorf("inode %d is none", i)
	}
	g.inodes[i].holders++
}

// openPipe opens both ends; an end that no file is left for goes at once.
func (g *stage) openPipe(t *testing.T) {
	t.Helper()
	q, ok := pipe.Alloc(g.v)
	if !ok {
		return
	}
	g.pipes[q] = plainPipe{there: true, readers: 1, writers: 1}
	for _, kind := range []int{reader, writer} {
		if !g.open(t, kind, q, kind-1) {
			pipe.Ends(g.v, q, kind == writer, -1)
			g.end(kind, q)
		}
	}
}

func (g *stage) end(kind, q int) {
	p := &g.pipes[q]
	if kind == reader {
		p.readers--
	} else {
		p.writers--
	}
	if p.readers+p.writers == 0 {
		*p = plainPipe{}
	}
}

func (g *stage) dup(t *testing.T, f int) {
	t.Helper()
	x := &g.files[f]
	wantDup(t, g.v, f, x.there)
	if x.there {
		x.holders++
	}
}

func (g *stage) close(t *testing.T, f int) {
	t.Helper()
	x := &g.files[f]
	wantClose(t, g.v, f, x.there)
	if !x.there {
		return
	}
	x.holders--
	if x.holders > 0 {
		return
	}
	if x.kind == node {
		i := &g.inodes[x.what]
		i.holders--
		if i.links+i.holders == 0 {
			*i = plainInode{}
		}
	} else {
		g.end(x.kind, x.what)
	}
	*x = plainFile{}
}

// source is where a file reads from, and whether a read of nothing waits; nil, if it may not read.
func (g *stage) source(x *plainFile) (*[]byte, bool) {
	switch {
	case !x.there || x.access&reads == 0:
	case x.kind == reader:
		return &g.pipes[x.what].bytes, g.pipes[x.what].writers > 0
	case x.what == 3:
		return &g.typed, true
	case x.kind == node:
		rest := append([]byte{}, g.inodes[x.what].bytes[x.at:]...)
		return &rest, false
	}
	return nil, false
}

func (g *stage) read(t *testing.T, f, n int) {
	t.Helper()
	x := &g.files[f]
	from, waits := g.source(x)
	if from == nil || n < 0 {
		wantRead(t, g.v, f, n, "", fails)
		return
	}
	if n > 0 && len(*from) == 0 && waits {
		wantRead(t, g.v, f, n, "", blocks)
		return
	}
	var out []byte
	for n > len(out) && len(*from) > 0 {
		out = append(out, (*from)[0])
		*from = (*from)[1:]
	}
	wantRead(t, g.v, f, n, string(out), done)
	if x.kind == node && x.what != 3 {
		x.at += len(out)
	}
}

func (g *stage) write(t *testing.T, f, size int) {
	t.Helper()
	d := make([]byte, size)
	for j := range d {
		d[j] = g.next
		g.next += 3
	}
	x := &g.files[f]
	n := 0
	switch {
	case !x.there || x.access&writes == 0, x.kind == writer && g.pipes[x.what].readers == 0:
		wantWrite(t, g.v, f, string(d), -1, fails)
		return
	case x.kind == writer:
		for p := &g.pipes[x.what]; n < size && len(p.bytes) < maxPipe; n++ {
			p.bytes = append(p.bytes, d[n])
		}
		if n == 0 && size > 0 {
			wantWrite(t, g.v, f, string(d), 0, blocks)
			return
		}
	case x.what == 3:
		for ; n < size; n++ {
			g.count++
			g.sum = g.sum*31 + int(d[n])
		}
	default:
		i := &g.inodes[x.what]
		for ; n < size && x.at < maxFile; n++ {
			i.bytes = append(append(append([]byte{}, i.bytes[:x.at]...), d[n]), i.bytes[min(x.at+1, len(i.bytes)):]...)
			x.at++
		}
		if n == 0 && size > 0 {
			wantWrite(t, g.v, f, string(d), -1, fails)
			return
		}
	}
	wantWrite(t, g.v, f, string(d), n, done)
}

func (g *stage) stat(t *testing.T, f int) {
	t.Helper()
	x := g.files[f]
	if !x.there || x.kind != node {
		wantNoStat(t, g.v, f)
		return
	}
	i := g.inodes[x.what]
	wantStat(t, g.v, f, api.Stat{Type: i.typ, Inode: x.what, Links: i.links, Size: len(i.bytes)})
}

// types has some bytes typed at the console.
func (g *stage) types() {
	x := g.v.Get(cons())
	x.S += "typed"
	g.v.Put(cons(), x)
	g.typed = append(g.typed, "typed"...)
}

// settle puts what was done into the store, and goes on through a new view.
func (g *stage) settle() {
	lay(g.s, g.v)
	g.v = store.Look(g.s)
}

// has is what an object must be.
func (g *stage) has(k api.Key) api.Value {
	var used api.Value
	switch {
	case k == table():
		for f, x := range g.files {
			if x.there {
				used.N[0] += 1 << f
			}
		}
	case k == pipes():
		for q, x := range g.pipes {
			if x.there {
				used.N[0] += 1 << q
			}
		}
	case k == inodes():
		for i, x := range g.inodes {
			if x.typ != 0 {
				used.N[0] += 1 << i
			}
		}
	case k == cons():
		return consVal(g.count, g.sum, string(g.typed))
	case k.Kind == api.KFile:
		x := g.files[k.N]
		return val(x.kind, x.holders, x.what, x.at, x.access)
	case k.Kind == api.KPipe:
		x := g.pipes[k.N]
		return pipeVal(x.readers, x.writers, string(x.bytes))
	case k.Kind == api.KInode && k.N < len(g.inodes):
		x := g.inodes[k.N]
		return inodeVal(x.typ, x.links, x.holders, string(x.bytes))
	}
	return used
}

// check holds all objects, and what is told of the files, against what they must be.
func (g *stage) check(t *testing.T) {
	t.Helper()
	for f, x := range g.files {
		if x.there {
			g.stat(t, f)
		} else if file.Is(g.v, f) {
			t.Errorf("file %d is there", f)
		}
	}
	for _, k := range g.row {
		if got := g.v.Get(k); got != g.has(k) {
			t.Errorf("object %v has %v, not %v", k, got, g.has(k))
		}
	}
}

// How many kinds of calls there are: those of a whole stage, and those about one file.
const (
	wholeCalls = 7
	fileCalls  = 9
)

// call does one call of a whole stage, or about one of the files.
func (g *stage) call(t *testing.T, c int) {
	t.Helper()
	f := (c - wholeCalls) / fileCalls
	switch c {
	case 0:
		g.openInode(t, 1, both)
		return
	case 1:
		g.openInode(t, 2, reads)
		return
	case 2:
		g.openInode(t, 2, writes)
		return
	case 3:
		g.openInode(t, 3, both)
		return
	case 4:
		g.openPipe(t)
		return
	case 5:
		g.types()
		return
	case 6:
		g.settle()
		return
	}
	switch (c - wholeCalls) % fileCalls {
	case 0:
		g.dup(t, f)
	case 1:
		g.close(t, f)
	case 2:
		g.read(t, f, 2)
	case 3:
		g.read(t, f, 0)
	case 4:
		g.read(t, f, -1)
	case 5:
		g.read(t, f, 99)
	case 6:
		g.write(t, f, 3)
	case 7:
		g.write(t, f, 15)
	case 8:
		g.write(t, f, 0)
	}
}

// All rows of three calls about the first three files, behind some beginnings.
func TestAllShortRowsOfCalls(t *testing.T) {
	const base = wholeCalls + 3*fileCalls
	objects := row()
	for _, begun := range [][]int{{}, {0, 4}, {3, 5, 2, 1}, {4, 22, 0}} {
		for code := range base * base * base {
			g := newStage(t, objects)
			for _, c := range begun {
				g.call(t, c)
			}
			for _, c := range []int{code % base, code / base % base, code / base / base} {
				g.call(t, c)
			}
			if g.check(t); t.Failed() {
				t.Fatalf("begun %v, calls %d", begun, code)
			}
		}
	}
}

// Long rows of calls about all files: which, is told by a sum that goes round.
func TestLongRowsOfCalls(t *testing.T) {
	for start := range 20 {
		g := newStage(t, row())
		n := uint32(start)
		for i := range 1500 {
			n = n*1664525 + 1013904223
			g.call(t, int(n>>8)%(wholeCalls+maxFiles*fileCalls))
			if n>>29 == uint32(start%8) { // more of them are had than go
				g.call(t, int(n>>12)%5)
			}
			if i%20 == 0 {
				g.check(t)
			}
		}
		if g.check(t); t.Failed() {
			t.Fatalf("start %d", start)
		}
	}
}

// When all holders are gone all is as at first, but what was written where a link reaches it.
func TestNothingIsLeft(t *testing.T) {
	for start := range 40 {
		g := newStage(t, row())
		n := uint32(start)
		for range 200 {
			n = n*1664525 + 1013904223
			g.call(t, int(n>>8)%(wholeCalls+maxFiles*fileCalls))
		}
		for f, x := range g.files {
			for range x.holders {
				g.close(t, f)
			}
			wantNone(t, g.v, f)
		}
		g.check(t)
		wantHas(t, g.v, table(), zero)
		wantHas(t, g.v, pipes(), zero)
		for _, i := range []int{2, 3} {
			if x := g.v.Get(inodeOf(i)); x.N != [16]int{i, 1} { // a file and a device, whose types are these numbers
				t.Errorf("inode %d has %v", i, x)
			}
		}
	}
}

// Each call on each file of a store where all objects have something: no other object is touched by it.
func TestNoOtherIsTouched(t *testing.T) {
	for _, f := range all() {
		for kind := range 5 {
			s := full(odd | every)
			s.Put(object(f), val(kind, f%3, 1, 2, both))
			s.Put(pipes(), bits(1))
			for _, c := range calls(f) {
				v := store.Look(s)
				c.do(v)
				for _, k := range row() {
					switch k {
					case table(), object(f), pipes(), pipeOf(1), inodes(), inodeOf(1), cons():
					default:
						wantHas(t, v, k, s.Get(k))
					}
				}
			}
		}
	}
}
