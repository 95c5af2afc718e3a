package file_test

import (
	"math"
	"slices"
	"testing"

	"cloister/api"
	"cloister/file"
	"cloister/store"
)

// deed does one call, or some.
type deed func(v *store.View)

// wantFoot does the deed through a new view of s, and wants what was read, what was written with its values, and that
// s is as it was.
func wantFoot(t *testing.T, what string, s *store.Store, d deed, read []api.Key, redo ...api.Write) {
	t.Helper()
	was, v := s.Twin(), store.Look(s)
	d(v)
	if got := v.Reads(); !slices.Equal(got, read) {
		t.Errorf("%s: read %v, not %v", what, got, read)
	}
	if got := v.Redo(); !slices.Equal(got, redo) {
		t.Errorf("%s: written %v, not %v", what, got, redo)
	}
	for _, k := range row() {
		if s.Get(k) != was.Get(k) {
			t.Errorf("%s: the store's %v has changed", what, k)
		}
	}
}

// asks are calls of all kinds but Open.
func asks(f int) []deed {
	return []deed{
		func(v *store.View) { file.Is(v, f) },
		func(v *store.View) { file.Dup(v, f) },
		func(v *store.View) { file.Close(v, f) },
		func(v *store.View) { file.Read(v, f, 0) },
		func(v *store.View) { file.Read(v, f, 1) },
		func(v *store.View) { file.Read(v, f, -1) },
		func(v *store.View) { file.Read(v, f, math.MaxInt) },
		func(v *store.View) { file.Read(v, f, math.MinInt) },
		func(v *store.View) { file.Write(v, f, "") },
		func(v *store.View) { file.Write(v, f, "x") },
		func(v *store.View) { file.Write(v, f, text(300)) },
		func(v *store.View) { file.Stat(v, f) },
	}
}

func TestP14_1WhatIsNoneReadsNoMoreThanTheTable(t *testing.T) {
	for _, used := range []int{0, every, -1, odd} {
		for _, f := range strangers() {
			for _, d := range asks(f) {
				wantFoot(t, "a stranger", full(used), d, nil)
			}
		}
	}
	for _, f := range all() {
		for _, d := range asks(f) {
			wantFoot(t, "none", full(every-1<<f), d, keys(table()))
			wantFoot(t, "none in a new store", store.New(), d, keys(table()))
		}
		wantFoot(t, "Is", full(every), func(v *store.View) { wantIs(t, v, f, true) }, keys(table()))
	}
}

func TestP14_2OpenReadsTheTableAlone(t *testing.T) {
	for _, f := range all() {
		for kind := range 5 {
			s := full(odd | every - 1<<f)
			then := s.Get(table())
			then.N[0] = odd | every
			wantFoot(t, "Open", s, func(v *store.View) { wantOpen(t, v, kind, 3, both, f) }, keys(table()), put(table(), then), put(object(f), val(kind, 1, 3, 0, both)))
		}
	}
	for _, used := range []int{every, 2*every + 1, -1, math.MaxInt, odd | every, math.MinInt | every} {
		wantFoot(t, "a refused Open", full(used), func(v *store.View) { wantOpen(t, v, node, 1, both, -1) }, keys(table()))
	}
}

func TestP14_3DupTouchesTheFileAlone(t *testing.T) {
	for _, f := range all() {
		for kind := range 5 {
			for _, holders := range []int{-1, 0, 1, 2} {
				x := val(kind, holders, 1, 5, both)
				then := x
				then.N[1]++
				wantFoot(t, "Dup", one(f, x, put(inodeOf(1), inodeVal(fileType, 1, 1, ""))), func(v *store.View) { wantDup(t, v, f, true) }, keys(table(), object(f)), put(object(f), then))
			}
		}
	}
}

// What a file had is asked when the last holder goes, and not before.
func TestP14_3CloseAsksAtTheEndAlone(t *testing.T) {
	for _, f := range all() {
		i := inodeOf(f + 2)
		own := keys(table(), object(f))
		node2 := val(node, 2, f+2, 5, both)
		wantFoot(t, "a holder fewer", one(f, node2, put(i, inodeVal(fileType, 0, 1, "abc"))), func(v *store.View) { wantClose(t, v, f, true) }, own, put(object(f), val(node, 1, f+2, 5, both)))
		node2.N[1] = 1
		for _, links := range []int{1, 9} {
			wantFoot(t, "the last of an inode that is linked", one(f, node2, put(i, inodeVal(fileType, links, 1, "abc"))), func(v *store.View) { wantClose(t, v, f, true) }, append(own, i), put(table(), zero), put(object(f), zero), put(i, inodeVal(fileType, links, 0, "abc")))
		}
		wantFoot(t, "the last of an inode that isn't", one(f, node2, put(inodes(), bits(0, f+2)), put(i, inodeVal(fileType, 0, 1, "abc"))), func(v *store.View) { wantClose(t, v, f, true) }, append(own, inodes(), i), put(table(), zero), put(object(f), zero), put(inodes(), bits(0)), put(i, zero))
		wantFoot(t, "the last of what is no inode", one(f, node2), func(v *store.View) { wantClose(t, v, f, true) }, append(own, i), put(table(), zero), put(object(f), zero))
		for _, what := range []int{0, 16, -1, math.MinInt} {
			wantFoot(t, "the last of what can be none", one(f, val(node, 1, what, 0, 0)), func(v *store.View) { wantClose(t, v, f, true) }, own, put(table(), zero), put(object(f), zero))
		}
		for _, kind := range []int{0, 4, -1} {
			wantFoot(t, "the last of an odd kind", one(f, val(kind, 1, 1, 0, both), put(inodeOf(1), inodeVal(fileType, 0, 1, ""))), func(v *store.View) { wantClose(t, v, f, true) }, own, put(table(), zero), put(object(f), zero))
		}
	}
}

func TestP14_3CloseOfAPipesEnd(t *testing.T) {
	for q := range 4 {
		own := keys(table(), object(6))
		for _, kind := range []int{reader, writer} {
			left, last := pipeVal(kind-reader, writer-kind, "abc"), pipeVal(writer-kind, kind-reader, "abc")
			s := one(6, val(kind, 2, q, 0, both), put(pipes(), bits(q)), put(pipeOf(q), pipeVal(1, 1, "abc")))
			wantFoot(t, "a holder fewer", s, func(v *store.View) { wantClose(t, v, 6, true) }, own, put(object(6), val(kind, 1, q, 0, both)))
			s.Put(object(6), val(kind, 1, q, 0, both))
			wantFoot(t, "one end", s, func(v *store.View) { wantClose(t, v, 6, true) }, append(own, pipes(), pipeOf(q)), put(table(), zero), put(object(6), zero), put(pipeOf(q), left))
			s.Put(pipeOf(q), last)
			wantFoot(t, "both ends", s, func(v *store.View) { wantClose(t, v, 6, true) }, append(own, pipes(), pipeOf(q)), put(table(), zero), put(object(6), zero), put(pipes(), zero), put(pipeOf(q), zero))
			s.Put(pipes(), zero)
			wantFoot(t, "no pipe", s, func(v *store.View) { wantClose(t, v, 6, true) }, append(own, pipes()), put(table(), zero), put(object(6), zero))
			s.Put(object(6), val(kind, 1, q+4, 0, both))
			wantFoot(t, "what can be no pipe", s, func(v *store.View) { wantClose(t, v, 6, true) }, own, put(table(), zero), put(object(6), zero))
		}
	}
}

// A read or a write that fails asks no more than it has to: the mode ahead of the kind, and both ahead of the rest.
func TestP14_4FailingCallsStopAsking(t *testing.T) {
	for _, kind := range []int{node, reader, writer, 0, 4} {
		s := one(3, val(kind, 1, 1, 0, 0), put(inodeOf(1), inodeVal(deviceType, 1, 1, "")), put(pipes(), bits(1)), put(pipeOf(1), pipeVal(1, 1, "abc")))
		own := keys(table(), object(3))
		wantFoot(t, "n below 0", s, func(v *store.View) { wantRead(t, v, 3, -1, "", fails) }, keys(table()))
		for _, n := range []int{0, 1} {
			wantFoot(t, "no mode", s, func(v *store.View) { wantRead(t, v, 3, n, "", fails) }, own)
			wantFoot(t, "no mode", s, func(v *store.View) { wantWrite(t, v, 3, text(n), -1, fails) }, own)
		}
		s.Put(object(3), val(kind, 1, 1, 0, both))
		wantFoot(t, "n below 0", s, func(v *store.View) { wantRead(t, v, 3, -1, "", fails) }, keys(table()))
		if kind != node && kind != reader {
			wantFoot(t, "a kind that isn't read", s, func(v *store.View) { wantRead(t, v, 3, 1, "", fails) }, own)
		}
		if kind != node && kind != writer {
			wantFoot(t, "a kind that isn't written", s, func(v *store.View) { wantWrite(t, v, 3, "x", -1, fails) }, own)
		}
		if kind != node {
			wantFoot(t, "a kind that isn't told of", s, func(v *store.View) { wantNoStat(t, v, 3) }, own)
		}
	}
	for _, what := range []int{0, 16, -1, math.MaxInt} {
		s, own := one(3, val(node, 1, what, 0, both)), keys(table(), object(3))
		for _, d := range []deed{func(v *store.View) { wantRead(t, v, 3, 0, "", fails) }, func(v *store.View) { wantWrite(t, v, 3, "", -1, fails) }, func(v *store.View) { wantNoStat(t, v, 3) }} {
			wantFoot(t, "what can be no inode", s, d, own)
			wantFoot(t, "what is no inode", one(3, val(node, 1, 9, 0, both)), d, append(own, inodeOf(9)))
		}
	}
}

// A read of an inode writes its file, even by none; it doesn't write the inode.
func TestP14_4ReadsOfInodes(t *testing.T) {
	for _, f := range all() {
		i, own := inodeOf(12), keys(table(), object(f), inodeOf(12))
		s := one(f, val(node, 1, 12, 2, reads), put(i, inodeVal(fileType, 1, 1, "abcd")))
		for _, q := range []struct {
			n    int
			want string
		}{{0, ""}, {1, "c"}, {2, "cd"}, {9, "cd"}} {
			wantFoot(t, "Read", s, func(v *store.View) { wantRead(t, v, f, q.n, q.want, done) }, own, put(object(f), val(node, 1, 12, 2+len(q.want), reads)))
		}
		for _, off := range []int{4, 5, -1, math.MaxInt, math.MinInt} {
			s.Put(object(f), val(node, 1, 12, off, reads))
			for _, n := range []int{0, 1, math.MaxInt} {
				wantFoot(t, "Read of nothing", s, func(v *store.View) { wantRead(t, v, f, n, "", done) }, own, put(object(f), val(node, 1, 12, off, reads)))
			}
		}
	}
}

// A write of an inode writes both, even by none; one that finds no room leaves what inode.Write has written, and the
// file unwritten; one that finds no place writes nothing.
func TestP14_5WritesOfInodes(t *testing.T) {
	for _, f := range all() {
		i, own := inodeOf(12), keys(table(), object(f), inodeOf(12))
		s := one(f, val(node, 1, 12, 2, writes), put(i, inodeVal(fileType, 1, 1, "abcd")))
		for _, d := range []string{"", "x", "xy", "xyz", text(126), text(200)} {
			then, n := over("abcd", 2, d)
			wantFoot(t, "Write", s, func(v *store.View) { wantWrite(t, v, f, d, n, done) }, own, put(object(f), val(node, 1, 12, 2+n, writes)), put(i, inodeVal(fileType, 1, 1, then)))
		}
		for _, off := range []int{5, 129, -1, math.MaxInt, math.MinInt} {
			s.Put(object(f), val(node, 1, 12, off, writes))
			for _, d := range []string{"", "x", text(200)} {
				wantFoot(t, "Write at no place", s, func(v *store.View) { wantWrite(t, v, f, d, -1, fails) }, own)
			}
		}
		for _, size := range []int{128, 129, 300} {
			s.Put(object(f), val(node, 1, 12, 128, writes))
			s.Put(i, inodeVal(fileType, 1, 1, text(size)))
			wantFoot(t, "Write without room", s, func(v *store.View) { wantWrite(t, v, f, "x", -1, fails) }, own, put(i, inodeVal(fileType, 1, 1, text(size))))
			wantFoot(t, "Write of nothing at the end", s, func(v *store.View) { wantWrite(t, v, f, "", 0, done) }, own, put(object(f), val(node, 1, 12, 128, writes)), put(i, inodeVal(fileType, 1, 1, text(size))))
		}
	}
}

// A pipe's calls write the pipe alone, and not the file.
func TestP14_4ReadsAndWritesOfPipes(t *testing.T) {
	for q := range 4 {
		for _, x := range []api.Value{pipeVal(1, 1, "abcd"), pipeVal(1, 1, ""), pipeVal(1, 0, ""), pipeVal(0, 1, "abcd"), pipeVal(1, 1, text(16))} {
			s := ends(q, x, reads, writes)
			for n := range 3 {
				var redo []api.Write
				if left := x; n > 0 && x.S != "" {
					left.S = left.S[n:]
					redo = append(redo, put(pipeOf(q), left))
				}
				wantFoot(t, "Read", s, func(v *store.View) { file.Read(v, 0, n) }, keys(table(), object(0), pipes(), pipeOf(q)), redo...)
				redo = nil
				if more := x; n > 0 && x.N[0] > 0 && len(x.S) < maxPipe {
					more.S += text(n)
					redo = append(redo, put(pipeOf(q), more))
				}
				wantFoot(t, "Write", s, func(v *store.View) { file.Write(v, 1, text(n)) }, keys(table(), object(1), pipes(), pipeOf(q)), redo...)
			}
			s.Put(pipes(), zero)
			wantFoot(t, "Read of no pipe", s, func(v *store.View) { wantRead(t, v, 0, 1, "", fails) }, keys(table(), object(0), pipes()))
			wantFoot(t, "Write of no pipe", s, func(v *store.View) { wantWrite(t, v, 1, "x", -1, fails) }, keys(table(), object(1), pipes()))
			s.Put(object(0), val(reader, 1, 4, 0, reads))
			s.Put(object(1), val(writer, 1, -1, 0, writes))
			wantFoot(t, "Read of what can be none", s, func(v *store.View) { wantRead(t, v, 0, 1, "", fails) }, keys(table(), object(0)))
			wantFoot(t, "Write of what can be none", s, func(v *store.View) { wantWrite(t, v, 1, "x", -1, fails) }, keys(table(), object(1)))
		}
	}
}

// A console is read by all reads, and written by those that read something, and by all writes, even by none; the file
// and the inode aren't written.
func TestP14_6TheConsoleAlone(t *testing.T) {
	own := keys(table(), object(2), inodeOf(5), cons())
	s := desk(consVal(1, 2, "typed"))
	wantFoot(t, "Read", s, func(v *store.View) { wantRead(t, v, 2, 2, "ty", done) }, own, put(cons(), consVal(1, 2, "ped")))
	wantFoot(t, "Read of all", s, func(v *store.View) { wantRead(t, v, 2, 9, "typed", done) }, own, put(cons(), consVal(1, 2, "")))
	wantFoot(t, "Read of nothing", s, func(v *store.View) { wantRead(t, v, 2, 0, "", done) }, own)
	wantFoot(t, "a failing Read", s, func(v *store.View) { wantRead(t, v, 2, -1, "", fails) }, keys(table()))
	wantFoot(t, "Write", s, func(v *store.View) { wantWrite(t, v, 2, "a", 1, done) }, own, put(cons(), consVal(2, 159, "typed")))
	wantFoot(t, "Write of nothing", s, func(v *store.View) { wantWrite(t, v, 2, "", 0, done) }, own, put(cons(), consVal(1, 2, "typed")))
	wantFoot(t, "Write of nothing of a new one", desk(zero), func(v *store.View) { wantWrite(t, v, 2, "", 0, done) }, own, put(cons(), zero))
	wantFoot(t, "a Read that blocks", desk(zero), func(v *store.View) { wantRead(t, v, 2, 1, "", blocks) }, own)
	wantFoot(t, "Read of nothing of a new one", desk(zero), func(v *store.View) { wantRead(t, v, 2, 0, "", done) }, own)
	wantFoot(t, "Stat", s, func(v *store.View) { wantStat(t, v, 2, api.Stat{Type: deviceType, Inode: 5, Links: 1}) }, keys(table(), object(2), inodeOf(5)))
}

// What a view wrote is what it reads; whoever looks at the store sees nothing of it until it is put there.
func TestThroughTheView(t *testing.T) {
	s := with(store.New(), put(inodeOf(1), inodeVal(fileType, 1, 0, "abcdef")))
	v, w := store.Look(s), store.Look(s)
	wantOpen(t, v, node, 1, both, 0)
	wantRead(t, v, 0, 2, "ab", done)
	wantWrite(t, v, 0, "XY", 2, done)
	wantNone(t, w, 0)
	wantOpen(t, w, node, 1, reads, 0)
	wantRead(t, w, 0, 9, "abcdef", done)
	lay(s, v)
	wantRead(t, w, 0, 9, "", done)
	u := store.Look(s)
	wantHas(t, u, object(0), val(node, 1, 1, 4, both))
	wantRead(t, u, 0, 9, "ef", done)
	wantOpen(t, u, node, 1, reads, 1)
	wantRead(t, u, 1, 9, "abXYef", done)
}
