package unix

import (
	"cloister/api"
	"cloister/arg"
	"cloister/file"
	"cloister/inode"
	"cloister/proc"
	"cloister/space"
)

// fork reads all that the child is to have ahead of the child. A directory or a file that is gone is nobody's to hold:
// the child has the same number of the one, and no descriptor of the other.
func (w *work) fork() answer {
	x, mem := w.process(), w.memory()
	child, ok := proc.New(w.v, w.p)
	if !ok || !space.Grow(w.v, child, len(x.S)) {
		return refused()
	}
	set(w.v, child, atDir, x.N[atDir])
	inode.Change(w.v, x.N[atDir], 0, 1)
	for fd := range api.MaxFd {
		if f, ok := proc.Fd(w.v, w.p, fd); ok && file.Dup(w.v, f) {
			proc.SetFd(w.v, child, fd, f)
		}
	}
	w.v.Put(memory(child), mem)
	return done(w.v.Get(process(child)).N[atPid])
}

// exitUnlessFirst keeps the first process, as orphans need a parent.
func (w *work) exitUnlessFirst(code int) answer {
	if w.p == first {
		return refused()
	}
	return w.exit(code)
}

// exit leaves a zombie with its pid, its parent and its code, for the parent to wait for.
func (w *work) exit(code int) answer {
	for fd := range api.MaxFd {
		w.drop(fd)
	}
	inode.Change(w.v, w.process().N[atDir], 0, -1)
	for _, child := range proc.Kids(w.v, w.p) {
		set(w.v, child, atParent, first+1)
	}
	w.shrink(len(w.process().S))
	x := w.process()
	x.N[atState] = api.PZombie
	x.N[atCode] = int(byte(code))
	x.N[atDir] = 0
	w.v.Put(process(w.p), x)
	return answer{0, api.Gone}
}

// badAddress ends a process as its own fault, but not the first one.
func (w *work) badAddress() answer { return w.exitUnlessFirst(codeAddress) }

func (w *work) wait(addr int) answer {
	kids := proc.Kids(w.v, w.p)
	for _, child := range kids {
		if w.v.Get(process(child)).N[atState] == api.PZombie {
			return w.reap(child, addr)
		}
	}
	if len(kids) == 0 {
		return refused()
	}
	return blocks()
}

// reap tells the code ahead of freeing the child, which is waited for again if there is no room for it.
func (w *work) reap(child, addr int) answer {
	x := w.v.Get(process(child))
	if addr != 0 && !w.put(addr, x.N[atCode]) {
		return refused()
	}
	proc.Free(w.v, child)
	return done(x.N[atPid])
}

// kill only says it: the other one ends at its next call. Whoever has ended already may be told so, too.
func (w *work) kill(pid int) answer {
	p, ok := proc.ByPid(w.v, pid)
	if !ok || p == first {
		return refused()
	}
	set(w.v, p, atKilled, 1)
	return done(0)
}

// exec keeps the registers: memory alone is another program's.
func (w *work) exec(addr int) answer {
	i, ok := w.walk(addr)
	if !ok || inode.Type(w.v, i) != api.TFile {
		return refused()
	}
	program := inode.Read(w.v, i, 0, api.MaxFile)
	need := max(1, (len(program)+api.PageLen-1)/api.PageLen)
	if need > api.MaxSize {
		return refused()
	}
	w.shrink(len(w.process().S))
	return zeroIf(space.Grow(w.v, w.p, need) && arg.Put(w.v, w.p, 0, program))
}

// brk asks how far below 0 ahead of turning the sign: the least number has no other side.
func (w *work) brk(n int) answer {
	had := len(w.process().S)
	var ok bool
	switch {
	case n >= 0:
		ok = space.Grow(w.v, w.p, n)
	case n >= -api.MaxSize:
		ok = w.shrink(-n)
	}
	if !ok {
		return refused()
	}
	return done(had * api.PageLen)
}

func (w *work) shrink(n int) bool {
	pages, ok := space.Shrink(w.v, w.p, n)
	w.pages = append(w.pages, pages...)
	return ok
}

func (w *work) store(addr, b int) answer {
	if !w.put(addr, b) {
		return w.badAddress()
	}
	return done(0)
}

func (w *work) load(addr int) answer {
	d, ok := arg.Bytes(w.v, w.p, addr, 1)
	if !ok {
		return w.badAddress()
	}
	return done(int(d[0]))
}

// put writes numbers into the process's memory, the lowest byte of each.
func (w *work) put(addr int, l ...int) bool {
	b := make([]byte, len(l))
	for at, n := range l {
		b[at] = byte(n)
	}
	return arg.Put(w.v, w.p, addr, string(b))
}
