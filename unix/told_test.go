package unix_test

import (
	"bytes"
	"math"
	"slices"
	"strings"
	"testing"

	"cloister/api"
	"cloister/key"
	"cloister/store"
	"cloister/unix"
)

// refusal and waiting are how a telling ends that has come to one of them.
type (
	refusal struct{}
	waiting struct{}
)

func must(ok bool) {
	if !ok {
		panic(refusal{})
	}
}

// telling is what a call must answer, read and write: told from the store's values, in the chapters' order, without
// the packages that the calls stand on.
type telling struct {
	s       *store.Store
	p       int
	read    []api.Key
	written map[api.Key]api.Value
	pages   []int
}

// tell ends the telling of a call as it must end.
func tell(s *store.Store, p int, c api.Call) (a api.Act) {
	g := &telling{s: s, p: p, written: map[api.Key]api.Value{}}
	defer func() {
		switch r := recover(); {
		case r == refusal{}:
			a.Ret = -1
		case r == waiting{}:
			a.Status = blocks
		case r != nil:
			panic(r)
		}
		a.Reads = key.Sort(g.read)
		if a.Status == blocks || a.Status == done && a.Ret == -1 {
			return
		}
		a.Pages = g.pages
		for _, k := range objects {
			if x, ok := g.written[k]; ok {
				a.Redo = append(a.Redo, put(k, x))
			}
		}
	}()
	must(g.state(p) == alive)
	if g.me().N[6] != 0 {
		g.exit(255)
		a.Status = gone
		return
	}
	a.Ret, a.Status = g.call(c)
	return
}

func (g *telling) get(k api.Key) api.Value {
	g.read = append(g.read, k)
	if x, ok := g.written[k]; ok {
		return x
	}
	return g.s.Get(k)
}

func (g *telling) put(k api.Key, x api.Value) { g.written[k] = x }

// edit changes a part of an object.
func (g *telling) edit(k api.Key, f func(x *api.Value)) {
	x := g.get(k)
	f(&x)
	g.put(k, x)
}

func (g *telling) me() api.Value { return g.get(process(g.p)) }

func bitOf(n, i int) bool { return uint64(n)>>i%2 == 1 }

// had takes the least number whose bit isn't set, from first on.
func (g *telling) had(table api.Key, first, end int) int {
	used := g.get(table)
	for i := first; i < end; i++ {
		if !bitOf(used.N[0], i) {
			used.N[0] |= 1 << i
			g.put(table, used)
			return i
		}
	}
	panic(refusal{})
}

// lost writes an object zero, and clears its bit.
func (g *telling) lost(table, k api.Key) {
	g.put(k, zero)
	g.edit(table, func(x *api.Value) { x.N[0] &= -1 - 1<<k.N })
}

func (g *telling) state(p int) int {
	if p < 0 || p >= maxProcs || !bitOf(g.get(procs()).N[0], p) {
		return 0
	}
	return g.get(process(p)).N[0]
}

func (g *telling) kids(p int) []int {
	var l []int
	for k := range maxProcs {
		if g.state(k) != 0 && g.get(process(k)).N[1]-1 == p {
			l = append(l, k)
		}
	}
	return l
}

func (g *telling) fd(fd int) (int, bool) {
	if fd < 0 || fd >= maxFd {
		return 0, false
	}
	f := g.me().N[8+fd] - 1
	return f, f >= 0 && f < maxFiles
}

func (g *telling) mustFd(fd int) int {
	f, ok := g.fd(fd)
	must(ok)
	return f
}

func (g *telling) setFd(p, fd, f int) {
	g.edit(process(p), func(x *api.Value) { x.N[8+fd] = f + 1 })
}

func (g *telling) freeFd() int {
	for fd := range maxFd {
		if _, ok := g.fd(fd); !ok {
			return fd
		}
	}
	panic(refusal{})
}

func (g *telling) isOpen(f int) bool { return bitOf(g.get(files()).N[0], f) }

func (g *telling) hold(f int) bool {
	if !g.isOpen(f) {
		return false
	}
	g.edit(fileOf(f), func(x *api.Value) { x.N[1]++ })
	return true
}

func (g *telling) close(f int) {
	if !g.isOpen(f) {
		return
	}
	x := g.get(fileOf(f))
	if x.N[1]--; x.N[1] > 0 {
		g.put(fileOf(f), x)
		return
	}
	g.lost(files(), fileOf(f))
	switch x.N[0] {
	case node:
		g.change(x.N[2], 0, -1)
	case reader, writer:
		if q := x.N[2]; g.isPipe(q) {
			g.edit(pipeOf(q), func(y *api.Value) { y.N[x.N[0]-reader]-- })
			if y := g.get(pipeOf(q)); y.N[0] <= 0 && y.N[1] <= 0 {
				g.lost(pipes(), pipeOf(q))
			}
		}
	}
}

func (g *telling) isPipe(q int) bool {
	return q >= 0 && q < maxPipes && bitOf(g.get(pipes()).N[0], q)
}

func (g *telling) inode(i int) (api.Value, bool) {
	if i < 1 || i >= maxInodes {
		return zero, false
	}
	x := g.get(inodeOf(i))
	return x, x.N[0] != 0
}

func (g *telling) change(i, links, holders int) bool {
	x, ok := g.inode(i)
	if !ok {
		return false
	}
	x.N[1] += links
	x.N[2] += holders
	if x.N[1] <= 0 && x.N[2] <= 0 {
		g.lost(inodes(), inodeOf(i))
	} else {
		g.put(inodeOf(i), x)
	}
	return true
}

func (g *telling) isDir(i int) bool {
	x, ok := g.inode(i)
	return ok && x.N[0] == dirType
}

// slot is an entry of a directory.
type slot struct {
	name string
	i    int
}

func (e slot) there() bool { return e.i >= 1 && e.i < maxInodes }

func (g *telling) slots(d int) []slot {
	if !g.isDir(d) {
		return nil
	}
	var l []slot
	x, _ := g.inode(d)
	for s := x.S; len(s) >= 16 && len(l) < 8; s = s[16:] {
		name, _, _ := strings.Cut(s[:14], "\x00")
		l = append(l, slot{name, int(s[14]) + 256*int(s[15])})
	}
	return l
}

// at is where the name stands, and the place for a new one, if there is any.
func (g *telling) at(d int, s string) (int, int) {
	l := g.slots(d)
	found := slices.IndexFunc(l, func(e slot) bool { return e.there() && e.name == s })
	if free := slices.IndexFunc(l, func(e slot) bool { return !e.there() }); free >= 0 {
		return found, free
	}
	return found, len(l)
}

func (g *telling) find(d int, s string) (int, bool) {
	at, _ := g.at(d, s)
	if at < 0 {
		return 0, false
	}
	return g.slots(d)[at].i, true
}

func (g *telling) writeSlot(d, at int, s string, i int) {
	g.edit(inodeOf(d), func(x *api.Value) {
		b := append([]byte(x.S), make([]byte, max(0, 16*at+16-len(x.S)))...)
		copy(b[16*at:], entry(s, i))
		x.S = string(b)
	})
}

func (g *telling) add(d int, s string, i int) {
	found, free := g.at(d, s)
	must(g.isDir(d) && found < 0 && free < 8)
	g.writeSlot(d, free, s, i)
}

// names are those of a path at an address, and where it begins.
func (g *telling) names(addr int) (int, []string) {
	mem := g.get(memory(g.p)).S
	must(addr >= 0 && addr < len(mem))
	s, _, ends := strings.Cut(mem[addr:], "\x00")
	must(ends && len(s) <= maxPath)
	must(s != "")
	l := slices.DeleteFunc(strings.Split(s, "/"), func(s string) bool { return s == "" })
	must(!slices.ContainsFunc(l, func(s string) bool { return len(s) > 14 }))
	if s[0] == '/' {
		return root, l
	}
	return g.me().N[4], l
}

func (g *telling) along(i int, l []string) int {
	_, ok := g.inode(i)
	must(ok)
	for _, s := range l {
		next, found := g.find(i, s)
		must(found)
		_, ok := g.inode(next)
		must(ok)
		i = next
	}
	return i
}

func (g *telling) walk(addr int) int { return g.along(g.names(addr)) }

// parent must lead to a directory; with room one that has a link.
func (g *telling) parent(addr int, room bool) (int, string) {
	i, l := g.names(addr)
	must(len(l) > 0)
	d, last := g.along(i, l[:len(l)-1]), l[len(l)-1]
	must(g.isDir(d))
	x, _ := g.inode(d)
	must(!room || x.N[1] > 0)
	return d, last
}

func (g *telling) bytes(addr, n int) string {
	size := len(g.get(memory(g.p)).S)
	must(addr >= 0 && n >= 0 && addr <= size && n <= size-addr)
	return g.get(memory(g.p)).S[addr : addr+n]
}

func (g *telling) store(addr int, l ...int) {
	g.bytes(addr, len(l))
	g.edit(memory(g.p), func(x *api.Value) { x.S = x.S[:addr] + raw(l...) + x.S[addr+len(l):] })
}

func (g *telling) grow(p, n int) {
	must(n >= 0)
	x, mem := g.get(process(p)), g.get(memory(p))
	must(n <= maxSize-len(x.S))
	all := g.get(pool())
	for page := 0; n > 0; page++ {
		must(page < maxPages)
		if bitOf(all.N[0], page) {
			all.N[0] ^= 1 << page
			x.S += raw(page)
			mem.S += noughts(pageLen)
			n--
		}
	}
	g.put(pool(), all)
	g.put(process(p), x)
	g.put(memory(p), mem)
}

func (g *telling) shrink(n int) {
	x, mem := g.me(), g.get(memory(g.p))
	must(n <= len(x.S))
	all := g.get(pool())
	for ; n > 0; n-- {
		page := int(x.S[len(x.S)-1]) & 63
		all.N[1] |= 1 << page
		g.pages = slices.Insert(g.pages, 0, page)
		x.S = x.S[:len(x.S)-1]
	}
	mem.S = mem.S[:min(len(mem.S), pageLen*len(x.S))]
	g.put(pool(), all)
	g.put(process(g.p), x)
	g.put(memory(g.p), mem)
}

// exit is how any process ends, the first one, too.
func (g *telling) exit(code int) {
	for fd := range maxFd {
		if f, ok := g.fd(fd); ok {
			g.setFd(g.p, fd, -1)
			g.close(f)
		}
	}
	g.change(g.me().N[4], 0, -1)
	for _, k := range g.kids(g.p) {
		g.edit(process(k), func(x *api.Value) { x.N[1] = 1 })
	}
	g.shrink(len(g.me().S))
	g.edit(process(g.p), func(x *api.Value) { x.N[0], x.N[3], x.N[4] = zombie, code&255, 0 })
}

func (g *telling) exits(code int) (int, int) {
	must(g.p != 0)
	g.exit(code)
	return 0, gone
}

func (g *telling) call(c api.Call) (int, int) {
	switch c.Num {
	case api.CFork:
		return g.fork(), done
	case api.CExit:
		return g.exits(c.A)
	case api.CWait:
		return g.wait(c.A), done
	case api.CPipe:
		q := g.had(pipes(), 0, maxPipes)
		g.put(pipeOf(q), val(1, 1))
		in := g.install(reader, q, reads)
		g.store(c.A, in, g.install(writer, q, writes))
	case api.CRead:
		return g.readFile(g.mustFd(c.A), c.B, c.C), done
	case api.CKill:
		k := slices.IndexFunc(from(0, maxProcs), func(k int) bool { return g.state(k) != 0 && g.get(process(k)).N[2] == c.A })
		must(k > 0)
		g.edit(process(k), func(x *api.Value) { x.N[6] = 1 })
	case api.CExec:
		g.exec(g.walk(c.A))
	case api.CStat:
		g.stat(g.mustFd(c.A), c.B)
	case api.CChdir:
		i := g.walk(c.A)
		must(g.isDir(i))
		g.change(i, 0, 1)
		g.change(g.me().N[4], 0, -1)
		g.edit(process(g.p), func(x *api.Value) { x.N[4] = i })
	case api.CDup:
		f, fd := g.mustFd(c.A), g.freeFd()
		must(g.hold(f))
		g.setFd(g.p, fd, f)
		return fd, done
	case api.CPid:
		return g.me().N[2], done
	case api.CBrk:
		had := len(g.me().S) * pageLen
		must(c.A >= -maxSize)
		if c.A < 0 {
			g.shrink(-c.A)
		} else {
			g.grow(g.p, c.A)
		}
		return had, done
	case api.CUntil:
		if g.get(clock()).N[0] < c.A {
			panic(waiting{})
		}
	case api.CUptime:
		return g.get(clock()).N[0], done
	default:
		return g.other(c)
	}
	return 0, done
}

func (g *telling) other(c api.Call) (int, int) {
	switch c.Num {
	case api.COpen:
		return g.open(c.A, c.B), done
	case api.CWrite:
		return g.writeFile(g.mustFd(c.A), g.bytes(c.B, c.C)), done
	case api.CNode:
		g.create(c.A, deviceType)
	case api.CUnlink:
		g.unlink(c.A)
	case api.CLink:
		g.names2(c.A, c.B)
		i := g.walk(c.A)
		must(!g.isDir(i))
		d, s := g.parent(c.B, true)
		g.add(d, s, i)
		must(g.change(i, 1, 0))
	case api.CMkdir:
		g.create(c.A, dirType)
	case api.CClose:
		f := g.mustFd(c.A)
		g.setFd(g.p, c.A, -1)
		g.close(f)
	case api.CStore, api.CLoad:
		return g.touch(c)
	case api.CFloat:
		return g.float(c.A, c.B, c.C), done
	case api.CWeight:
		must(c.A >= 0 && c.A < registers)
		g.edit(memory(g.p), func(x *api.Value) { x.N[8] = x.N[c.A] })
	default:
		panic(refusal{})
	}
	return 0, done
}

// names2 wants texts that end in time at both addresses, whatever they say.
func (g *telling) names2(a, b int) {
	for _, addr := range []int{a, b} {
		mem := g.get(memory(g.p)).S
		must(addr >= 0 && addr < len(mem))
		n := strings.IndexByte(mem[addr:], 0)
		must(n >= 0 && n <= maxPath)
	}
}

func (g *telling) touch(c api.Call) (int, int) {
	size := len(g.get(memory(g.p)).S)
	if c.A < 0 || c.A >= size {
		return g.exits(254)
	}
	if c.Num == api.CLoad {
		return int(g.bytes(c.A, 1)[0]), done
	}
	g.store(c.A, c.B)
	return 0, done
}

func (g *telling) fork() int {
	x, mem := g.me(), g.get(memory(g.p))
	k := g.had(procs(), 0, maxProcs)
	g.edit(procs(), func(x *api.Value) { x.N[1]++ })
	pid := g.get(procs()).N[1]
	g.put(process(k), val(alive, g.p+1, pid))
	g.state(k)
	g.grow(k, len(x.S))
	g.edit(process(k), func(y *api.Value) { y.N[4] = x.N[4] })
	g.change(x.N[4], 0, 1)
	for fd := range maxFd {
		if f, ok := g.fd(fd); ok && g.hold(f) {
			g.setFd(k, fd, f)
		}
	}
	g.put(memory(k), mem)
	return pid
}

func (g *telling) wait(addr int) int {
	kids := g.kids(g.p)
	for _, k := range kids {
		x := g.get(process(k))
		if x.N[0] != zombie {
			continue
		}
		if addr != 0 {
			g.store(addr, x.N[3])
		}
		g.put(memory(k), zero)
		g.lost(procs(), process(k))
		return x.N[2]
	}
	must(len(kids) > 0)
	panic(waiting{})
}

func (g *telling) install(kind, what, mode int) int {
	fd := g.freeFd()
	f := g.had(files(), 0, maxFiles)
	g.put(fileOf(f), val(kind, 1, what, 0, mode))
	g.setFd(g.p, fd, f)
	return fd
}

// taken takes the first n bytes of what waits in an object; without any, one waits for more, if some may come.
func (g *telling) taken(k api.Key, n int, more bool) string {
	x := g.get(k)
	if n > 0 && x.S == "" && more {
		panic(waiting{})
	}
	d := x.S[:min(n, len(x.S))]
	if d != "" {
		g.edit(k, func(x *api.Value) { x.S = x.S[len(d):] })
	}
	return d
}

func (g *telling) readFile(f, addr, n int) int {
	g.bytes(addr, n)
	must(g.isOpen(f))
	x := g.get(fileOf(f))
	must(x.N[4]&reads != 0 && (x.N[0] == node || x.N[0] == reader))
	d := ""
	if x.N[0] == reader {
		must(g.isPipe(x.N[2]))
		d = g.taken(pipeOf(x.N[2]), n, g.get(pipeOf(x.N[2])).N[1] > 0)
	} else if i, ok := g.inode(x.N[2]); !ok {
		panic(refusal{})
	} else if i.N[0] == deviceType {
		d = g.taken(cons(), n, true)
	} else {
		if off := x.N[3]; off >= 0 && off < len(i.S) {
			d = i.S[off:][:min(n, len(i.S)-off)]
		}
		g.edit(fileOf(f), func(x *api.Value) { x.N[3] += len(d) })
	}
	g.edit(memory(g.p), func(x *api.Value) { x.S = x.S[:addr] + d + x.S[addr+len(d):] })
	return len(d)
}

func (g *telling) writeFile(f int, d string) int {
	must(g.isOpen(f))
	x := g.get(fileOf(f))
	must(x.N[4]&writes != 0 && (x.N[0] == node || x.N[0] == writer))
	if x.N[0] == writer {
		must(g.isPipe(x.N[2]))
		return g.fill(pipeOf(x.N[2]), d)
	}
	i, ok := g.inode(x.N[2])
	must(ok)
	if i.N[0] == deviceType {
		g.edit(cons(), func(x *api.Value) {
			for _, b := range []byte(d) {
				x.N[0]++
				x.N[1] = x.N[1]*31 + int(b)
			}
		})
		return len(d)
	}
	off := x.N[3]
	must(off >= 0 && off <= len(i.S) && off <= maxFile)
	d, all := d[:min(len(d), maxFile-off)], d
	must(d != "" || all == "")
	g.edit(inodeOf(x.N[2]), func(i *api.Value) { i.S = i.S[:off] + d + i.S[min(len(i.S), off+len(d)):] })
	g.edit(fileOf(f), func(x *api.Value) { x.N[3] += len(d) })
	return len(d)
}

func (g *telling) fill(k api.Key, d string) int {
	x := g.get(k)
	must(x.N[0] > 0)
	if d == "" {
		return 0
	}
	d = d[:max(0, min(len(d), maxPipe-len(x.S)))]
	if d == "" {
		panic(waiting{})
	}
	g.edit(k, func(x *api.Value) { x.S += d })
	return len(d)
}

func (g *telling) stat(f, addr int) {
	must(g.isOpen(f))
	x := g.get(fileOf(f))
	must(x.N[0] == node)
	i, ok := g.inode(x.N[2])
	must(ok)
	g.store(addr, i.N[0], x.N[2], i.N[1], len(i.S))
}

func (g *telling) exec(i int) {
	x, _ := g.inode(i)
	must(x.N[0] == fileType && len(x.S) <= maxSize*pageLen)
	need := 1
	for need*pageLen < len(x.S) {
		need++
	}
	g.shrink(len(g.me().S))
	g.grow(g.p, need)
	g.edit(memory(g.p), func(m *api.Value) { m.S = x.S + m.S[len(x.S):] })
}

func (g *telling) open(addr, how int) int {
	creates := how&hCreate != 0
	if creates {
		how -= hCreate
	}
	must(how >= 0 && how <= 2)
	var i int
	if creates {
		i = g.create(addr, fileType)
	} else {
		i = g.walk(addr)
	}
	must(how == 0 || !g.isDir(i))
	fd := g.install(node, i, []int{reads, writes, both}[how])
	must(g.change(i, 0, 1))
	return fd
}

func (g *telling) create(addr, typ int) int {
	d, s := g.parent(addr, true)
	if i, found := g.find(d, s); found {
		must(typ == fileType)
		_, ok := g.inode(i)
		must(ok && !g.isDir(i))
		return i
	}
	i := g.had(inodes(), 1, maxInodes)
	g.put(inodeOf(i), val(typ))
	g.add(d, s, i)
	must(g.change(i, 1, 0))
	if typ == dirType {
		g.add(i, ".", i)
		g.add(i, "..", d)
		must(g.change(d, 1, 0))
	}
	return i
}

func (g *telling) unlink(addr int) {
	d, s := g.parent(addr, false)
	must(s != "." && s != "..")
	i, found := g.find(d, s)
	must(found)
	_, ok := g.inode(i)
	must(ok)
	wasDir := g.isDir(i)
	for _, e := range g.slots(i) {
		must(!e.there() || e.name == "." || e.name == "..")
	}
	at, _ := g.at(d, s)
	g.writeSlot(d, at, "", 0)
	if wasDir {
		g.change(d, -1, 0)
	}
	must(g.change(i, -1, 0))
}

func (g *telling) float(op, b, c int) int {
	must(b >= 0 && b < registers && c >= 0 && c < registers)
	mem := g.get(memory(g.p))
	x, y := math.Float64frombits(uint64(mem.N[b])), math.Float64frombits(uint64(mem.N[c]))
	var z float64
	switch op {
	case 0:
		z = float64(c)
	case api.OAdd:
		z = x + y
	case api.OSub:
		z = x - y
	case api.OMul:
		z = x * y
	case api.ODiv:
		z = x / y
	case api.OMin:
		if z = math.Min(x, y); math.IsNaN(z) && !(math.IsNaN(x) && math.IsNaN(y)) {
			z = notNaN(x, y)
		}
	case api.OMax:
		if z = math.Max(x, y); math.IsNaN(z) && !(math.IsNaN(x) && math.IsNaN(y)) {
			z = notNaN(x, y)
		}
	default:
		switch {
		case x < y:
			return 0
		case x == y:
			return 1
		case x > y:
			return 2
		}
		return 3
	}
	n := int(math.Float64bits(z))
	if math.IsNaN(z) {
		n = api.NaN
	}
	g.edit(memory(g.p), func(m *api.Value) { m.N[b] = n })
	return 0
}

func notNaN(x, y float64) float64 {
	if math.IsNaN(x) {
		return y
	}
	return x
}

// wantTold does the call, wants what is told of it, and that the store is as it was.
func wantTold(t *testing.T, s *store.Store, p int, c api.Call) api.Act {
	t.Helper()
	was, want := s.Twin(), tell(s, p, c)
	got := unix.Do(s, p, c)
	wantAct(t, "a call", got, want)
	wantSame(t, "a call", s, was)
	if t.Failed() {
		t.Fatalf("call %v of process %d, which has %v, %q", c, p, s.Get(process(p)), bytes.TrimRight([]byte(s.Get(memory(p)).S), "\x00"))
	}
	return got
}
