package unix

import (
	"cloister/api"
	"cloister/arg"
	"cloister/dir"
	"cloister/file"
	"cloister/inode"
	"cloister/pipe"
	"cloister/proc"
)

// install opens a file under the process's least free descriptor.
func (w *work) install(kind, what, mode int) (int, bool) {
	fd, ok := proc.FreeFd(w.v, w.p)
	if !ok {
		return 0, false
	}
	f, ok := file.Open(w.v, kind, what, mode)
	if !ok {
		return 0, false
	}
	return fd, proc.SetFd(w.v, w.p, fd, f)
}

func (w *work) pipe(addr int) answer {
	q, ok := pipe.Alloc(w.v)
	if !ok {
		return refused()
	}
	reader, ok := w.install(api.XReader, q, api.MRead)
	if !ok {
		return refused()
	}
	writer, ok := w.install(api.XWriter, q, api.MWrite)
	return zeroIf(ok && w.put(addr, reader, writer))
}

// read asks for room for all that it may read ahead of reading, as what is read from a pipe is gone there.
func (w *work) read(fd, addr, n int) answer {
	f, ok := proc.Fd(w.v, w.p, fd)
	if !ok {
		return refused()
	}
	if _, ok := arg.Bytes(w.v, w.p, addr, n); !ok {
		return refused()
	}
	d, status := file.Read(w.v, f, n)
	if status == api.Done {
		arg.Put(w.v, w.p, addr, d)
	}
	return moved(len(d), status)
}

func (w *work) write(fd, addr, n int) answer {
	f, ok := proc.Fd(w.v, w.p, fd)
	if !ok {
		return refused()
	}
	d, ok := arg.Bytes(w.v, w.p, addr, n)
	if !ok {
		return refused()
	}
	return moved(file.Write(w.v, f, d))
}

// moved is what a file says of a read or a write, as a call's answer.
func moved(n, status int) answer {
	switch status {
	case api.Done:
		return done(n)
	case api.Blocks:
		return blocks()
	}
	return refused()
}

func (w *work) stat(fd, addr int) answer {
	f, ok := proc.Fd(w.v, w.p, fd)
	if !ok {
		return refused()
	}
	x, ok := file.Stat(w.v, f)
	return zeroIf(ok && w.put(addr, x.Type, x.Inode, x.Links, x.Size))
}

func (w *work) dup(fd int) answer {
	f, ok := proc.Fd(w.v, w.p, fd)
	if !ok {
		return refused()
	}
	another, ok := proc.FreeFd(w.v, w.p)
	if !ok || !file.Dup(w.v, f) || !proc.SetFd(w.v, w.p, another, f) {
		return refused()
	}
	return done(another)
}

// drop takes a descriptor from the process, and tells whether it had it. That the file may not be open any more is no
// reason to keep the descriptor.
func (w *work) drop(fd int) bool {
	f, ok := proc.Fd(w.v, w.p, fd)
	if !ok {
		return false
	}
	proc.SetFd(w.v, w.p, fd, -1)
	file.Close(w.v, f)
	return true
}

// open asks how ahead of where, so that nothing is made for who doesn't say how. The file holds its inode from its
// beginning on, as closing it lets go of it.
func (w *work) open(addr, b int) answer {
	how := b &^ api.HCreate
	mode := modeOf(how)
	if mode == 0 {
		return refused()
	}
	find := w.walk
	if b != how {
		find = w.findOrCreate
	}
	i, ok := find(addr)
	if !ok || dir.Is(w.v, i) && how != 0 {
		return refused()
	}
	fd, ok := w.install(api.XInode, i, mode)
	if !ok || !inode.Change(w.v, i, 0, 1) {
		return refused()
	}
	return done(fd)
}

// modeOf tells 0 of what is no way to open a file.
func modeOf(how int) int {
	switch how {
	case 0:
		return api.MRead
	case api.HWrite:
		return api.MWrite
	case api.HBoth:
		return api.MRead | api.MWrite
	}
	return 0
}
