package file_test

import (
	"testing"

	"cloister/api"
	"cloister/store"
)

func TestP14_3MoreAndFewer(t *testing.T) {
	i := inodeVal(fileType, 0, 2, "abcdef")
	v := store.Look(with(store.New(), put(inodes(), bits(0, 1, 4)), put(inodeOf(4), i)))
	wantOpen(t, v, node, 4, both, 0)
	wantOpen(t, v, node, 4, both, 1)
	wantRead(t, v, 1, 2, "ab", done)
	holders := 1
	for _, more := range []bool{true, true, false, true, false, false, true, true, true, false, false, false} {
		if more {
			wantDup(t, v, 1, true)
			holders++
		} else {
			wantClose(t, v, 1, true)
			holders--
		}
		wantHas(t, v, object(1), val(node, holders, 4, 2, both))
		wantHas(t, v, table(), bits(0, 1))
		wantHas(t, v, inodeOf(4), i)
	}
	wantClose(t, v, 1, true)
	wantNone(t, v, 1)
	wantHas(t, v, object(1), zero)
	wantHas(t, v, table(), bits(0))
	wantHas(t, v, object(0), val(node, 1, 4, 0, both))
	i.N[2] = 1
	wantHas(t, v, inodeOf(4), i)
	wantHas(t, v, inodes(), bits(0, 1, 4))
	wantClose(t, v, 0, true)
	wantHas(t, v, inodeOf(4), zero)
	wantHas(t, v, inodes(), bits(0, 1))
	wantHas(t, v, table(), zero)
}

// wantSums dups and closes file f, which has x, in a store where all objects have something, and wants what comes of
// it; gone is what else is written when it goes.
func wantSums(t *testing.T, s *store.Store, f int, x api.Value, gone ...api.Write) {
	t.Helper()
	s.Put(object(f), x)
	v := store.Look(s)
	then := x
	then.N[1]++
	wantDup(t, v, f, true)
	wantRedo(t, v, put(object(f), then))
	v = store.Look(s)
	wantClose(t, v, f, true)
	then = x
	then.N[1]--
	if then.N[1] > 0 {
		wantIs(t, v, f, true)
		wantRedo(t, v, put(object(f), then))
		return
	}
	wantNone(t, v, f)
	used := s.Get(table())
	used.N[0] -= 1 << f
	wantRedo(t, v, append([]api.Write{put(table(), used), put(object(f), zero)}, gone...)...)
}

// Numbers of holders of all kinds: one more or fewer goes round as ints do, and one that goes has none left.
func TestP14_3AnyHolders(t *testing.T) {
	for _, f := range all() {
		s := full(odd | every)
		was := s.Get(object(f))
		for _, holders := range append(counts(), far()...) {
			x := was
			x.N[1] = holders
			// an odd kind has nothing that would go with it
			wantSums(t, s, f, x)
			x.N[0] = 0
			wantSums(t, s, f, x)
			// an inode: another holder is left
			x.N[0], x.N[2] = node, 9
			i := s.Get(inodeOf(9))
			i.N[2]--
			wantSums(t, s, f, x, put(inodeOf(9), i))
			// an inode that is none, and a pipe
			x.N[2] = 16
			wantSums(t, s, f, x)
			x.N[0], x.N[2] = reader, -1
			wantSums(t, s, f, x)
			x.N[0], x.N[2] = writer, 4
			wantSums(t, s, f, x)
		}
	}
}

// The bit is cleared, and all else of the table stays, whatever the table has.
func TestP14_3TheTableAtTheEnd(t *testing.T) {
	s := full(0)
	was := s.Get(table())
	for _, f := range all() {
		x := val(7, 1, 1, 5, both)
		s.Put(object(f), x)
		for _, high := range oddTables() {
			for used := 0; used < 1<<maxFiles; used += 1 + used%29 {
				was.N[0] = high + used
				s.Put(table(), was)
				v := store.Look(s)
				if used>>f%2 == 0 {
					wantClose(t, v, f, false)
					wantDup(t, v, f, false)
					wantRedo(t, v)
					continue
				}
				then := was
				then.N[0] -= 1 << f
				wantClose(t, v, f, true)
				wantRedo(t, v, put(table(), then), put(object(f), zero))
			}
		}
	}
}

// An inode goes with the last file that has it, if it has no link, and stays else.
func TestP14_3TheInodeAtTheEnd(t *testing.T) {
	for _, typ := range []int{dirType, fileType, deviceType, 4, -1} {
		for _, links := range []int{-1, 0, 1, 2} {
			for _, holders := range []int{-1, 0, 1, 2, 3} {
				s := full(odd | 1<<6)
				s.Put(object(6), val(node, 1, 11, 3, reads))
				i := s.Get(inodeOf(11))
				i.N[0], i.N[1], i.N[2] = typ, links, holders
				had := s.Get(inodes())
				had.N[0] = bits(0, 1, 2, 11, 15).N[0]
				with(s, put(inodeOf(11), i), put(inodes(), had))
				then := s.Get(table())
				then.N[0] = odd
				v := store.Look(s)
				wantClose(t, v, 6, true)
				if links > 0 || holders > 1 {
					i.N[2]--
					wantRedo(t, v, put(table(), then), put(object(6), zero), put(inodeOf(11), i))
					continue
				}
				had.N[0] = bits(0, 1, 2, 15).N[0]
				wantRedo(t, v, put(table(), then), put(object(6), zero), put(inodes(), had), put(inodeOf(11), zero))
			}
		}
	}
}

// A reader of its pipe goes with a reader, a writer with a writer, and the pipe with the last of both.
func TestP14_3ThePipeAtTheEnd(t *testing.T) {
	for _, kind := range []int{reader, writer} {
		for _, readers := range []int{-1, 0, 1, 2} {
			for _, writers := range []int{-1, 0, 1, 2} {
				s := full(odd | 1<<6)
				s.Put(object(6), val(kind, 1, 2, 0, both))
				x, had := s.Get(pipeOf(2)), s.Get(pipes())
				x.N[0], x.N[1] = readers, writers
				had.N[0] = 1<<40 | 7
				with(s, put(pipeOf(2), x), put(pipes(), had))
				then := s.Get(table())
				then.N[0] = odd
				v := store.Look(s)
				wantClose(t, v, 6, true)
				x.N[kind-reader]--
				if x.N[0] > 0 || x.N[1] > 0 {
					wantRedo(t, v, put(table(), then), put(object(6), zero), put(pipeOf(2), x))
					continue
				}
				had.N[0] = 1<<40 | 3
				wantRedo(t, v, put(table(), then), put(object(6), zero), put(pipes(), had), put(pipeOf(2), zero))
			}
		}
	}
}

// What it had may be gone, or may never have been there: the file goes all the same, and touches nothing else.
func TestP14_3WhatItHadIsNone(t *testing.T) {
	for _, kind := range []int{node, reader, writer, 0, 4, -1} {
		for _, what := range append([]int{0, 1, 3, 4, 15, 16, -1}, far()...) {
			s := one(2, val(kind, 1, what, 7, both))
			for i := range 16 {
				s.Put(inodeOf(i), inodeVal(0, 1, 1, "abc"))
			}
			for q := range 4 {
				s.Put(pipeOf(q), pipeVal(1, 1, "abc"))
			}
			v := store.Look(s)
			wantClose(t, v, 2, true)
			wantRedo(t, v, put(table(), zero), put(object(2), zero))
		}
	}
}

func TestP14_3Refused(t *testing.T) {
	v := store.Look(full(odd | every))
	for _, f := range strangers() {
		wantDup(t, v, f, false)
		wantClose(t, v, f, false)
	}
	if len(v.Foot()) != 0 {
		t.Errorf("strangers: %v", v.Foot())
	}
	for _, f := range all() {
		v = store.Look(full(odd | every - 1<<f))
		for range 2 {
			wantDup(t, v, f, false)
			wantClose(t, v, f, false)
		}
		wantRedo(t, v)
	}
}

// A pipe's two ends, each with some holders: it stays till the last of all of them is gone.
func TestP14_3BothEnds(t *testing.T) {
	for first := range 2 {
		v := store.Look(with(store.New(), put(pipes(), bits(0, 3)), put(pipeOf(3), pipeVal(1, 1, "abc"))))
		wantOpen(t, v, reader, 3, reads, 0)
		wantOpen(t, v, writer, 3, writes, 1)
		for f := range 2 {
			wantDup(t, v, f, true)
		}
		wantClose(t, v, first, true)
		wantHas(t, v, pipeOf(3), pipeVal(1, 1, "abc"))
		wantClose(t, v, first, true)
		wantHas(t, v, pipeOf(3), pipeVal(first, 1-first, "abc"))
		wantClose(t, v, 1-first, true)
		wantHas(t, v, pipeOf(3), pipeVal(first, 1-first, "abc"))
		wantHas(t, v, pipes(), bits(0, 3))
		wantClose(t, v, 1-first, true)
		wantHas(t, v, pipeOf(3), zero)
		wantHas(t, v, pipes(), bits(0))
		wantHas(t, v, table(), zero)
	}
}

func TestP14_3GoneAndHadAgain(t *testing.T) {
	i := inodeVal(fileType, 1, 1, "abcdef")
	v := store.Look(with(store.New(), put(inodeOf(2), i)))
	wantOpen(t, v, node, 2, both, 0)
	for range 30 {
		i.N[2] = 2
		v.Put(inodeOf(2), i)
		wantOpen(t, v, node, 2, reads, 1)
		wantDup(t, v, 1, true)
		wantRead(t, v, 1, 4, "abcd", done)
		wantClose(t, v, 1, true)
		wantRead(t, v, 1, 4, "ef", done)
		wantClose(t, v, 1, true)
		wantNone(t, v, 1)
		wantHas(t, v, table(), bits(0))
		wantHas(t, v, object(1), zero)
		i.N[2] = 1
		wantHas(t, v, inodeOf(2), i)
	}
}

// Holders of one file share its offset, those that came and went too; two files of one inode have an offset each.
func TestP14_8OneOffset(t *testing.T) {
	v := store.Look(with(store.New(), put(inodeOf(1), inodeVal(fileType, 1, 2, "0123456789"))))
	wantOpen(t, v, node, 1, both, 0)
	wantOpen(t, v, node, 1, both, 1)
	wantRead(t, v, 0, 2, "01", done)
	wantDup(t, v, 0, true)
	wantRead(t, v, 0, 2, "23", done)
	wantRead(t, v, 1, 3, "012", done)
	wantWrite(t, v, 0, "AB", 2, done)
	wantClose(t, v, 0, true)
	wantRead(t, v, 0, 1, "6", done)
	wantRead(t, v, 1, 4, "3AB6", done)
	wantDup(t, v, 1, true)
	wantDup(t, v, 1, true)
	wantWrite(t, v, 1, "XYZ+", 4, done)
	wantRead(t, v, 0, 9, "XYZ+", done)
	wantHas(t, v, object(0), val(node, 1, 1, 11, both))
	wantHas(t, v, object(1), val(node, 3, 1, 11, both))
	wantClose(t, v, 0, true)
	wantRead(t, v, 1, 9, "", done)
	wantOpen(t, v, node, 1, reads, 0)
	wantRead(t, v, 0, 99, "0123AB6XYZ+", done)
	wantHas(t, v, object(1), val(node, 3, 1, 11, both))
}

// Whoever reads or writes, in whichever order, through however many holders: the offset is that of all of it in turn.
func TestP14_8InTurn(t *testing.T) {
	for code := range 3 * 3 * 3 * 3 * 3 * 3 {
		v := store.Look(one(5, val(node, 1, 3, 0, both), put(inodeOf(3), inodeVal(fileType, 0, 1, text(100)))))
		at, holders := 0, 1
		for rest := code + 729; rest > 1; rest /= 3 {
			switch rest % 3 {
			case 0:
				wantDup(t, v, 5, true)
				holders++
			case 1:
				wantRead(t, v, 5, 7, text(100)[at:at+7], done)
				at += 7
			case 2:
				wantWrite(t, v, 5, "12345", 5, done)
				at += 5
			}
			wantHas(t, v, object(5), val(node, holders, 3, at, both))
		}
		for ; holders > 0; holders-- {
			wantRead(t, v, 5, 2, text(100)[at:at+2], done)
			at += 2
			wantClose(t, v, 5, true)
		}
		wantNone(t, v, 5)
		wantHas(t, v, inodeOf(3), zero)
	}
}
