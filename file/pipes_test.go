package file_test

import (
	"math"
	"testing"

	"cloister/api"
	"cloister/store"
)

// ends is a store with the pipe q, and its reader and its writer as the files 0 and 1, with a mode each.
func ends(q int, x api.Value, mayRead, mayWrite int) *store.Store {
	return with(store.New(), put(table(), bits(0, 1)), put(object(0), val(reader, 1, q, 0, mayRead)), put(object(1), val(writer, 1, q, 0, mayWrite)), put(pipes(), bits(q)), put(pipeOf(q), x))
}

func TestP14_4PipeInParts(t *testing.T) {
	v := store.Look(ends(2, pipeVal(1, 1, ""), reads, writes))
	wantRead(t, v, 0, 3, "", blocks)
	wantRead(t, v, 0, 0, "", done)
	wantWrite(t, v, 1, "", 0, done)
	wantWrite(t, v, 1, "abc", 3, done)
	wantRead(t, v, 0, 2, "ab", done)
	wantWrite(t, v, 1, "defg", 4, done)
	wantRead(t, v, 0, 4, "cdef", done)
	wantRead(t, v, 0, 4, "g", done)
	wantRead(t, v, 0, 4, "", blocks)
	wantWrite(t, v, 1, text(20), 16, done)
	wantWrite(t, v, 1, "x", 0, blocks)
	wantWrite(t, v, 1, "", 0, done)
	wantRead(t, v, 0, math.MaxInt, text(16), done)
	// the files themselves have no offset that would go on
	wantHas(t, v, object(0), val(reader, 1, 2, 0, reads))
	wantHas(t, v, object(1), val(writer, 1, 2, 0, writes))
	wantRedo(t, v, put(pipeOf(2), pipeVal(1, 1, "")))
}

// An offset that an end of a pipe happens to have is nothing to its pipe.
func TestP14_4PipesHaveNoOffset(t *testing.T) {
	for _, off := range append([]int{1, 2, 16, 128, -1}, far()...) {
		s := ends(0, pipeVal(1, 1, "abcd"), reads, writes)
		with(s, put(object(0), val(reader, 1, 0, off, reads)), put(object(1), val(writer, 1, 0, off, writes)))
		v := store.Look(s)
		wantRead(t, v, 0, 3, "abc", done)
		wantWrite(t, v, 1, "e", 1, done)
		wantRead(t, v, 0, 3, "de", done)
		wantRedo(t, v, put(pipeOf(0), pipeVal(1, 1, "")))
	}
}

// The end that reads isn't written, and the one that writes isn't read, though their modes say it.
func TestP14_4TheOtherEnd(t *testing.T) {
	for q := range 4 {
		v := store.Look(ends(q, pipeVal(1, 1, "abc"), both, both))
		for _, n := range []int{0, 1, 9, -1, math.MaxInt} {
			wantRead(t, v, 1, n, "", fails)
		}
		for _, d := range []string{"", "x", text(17)} {
			wantWrite(t, v, 0, d, -1, fails)
		}
		wantNoStat(t, v, 0)
		wantNoStat(t, v, 1)
		wantRedo(t, v)
		wantRead(t, v, 0, 2, "ab", done)
		wantWrite(t, v, 1, "d", 1, done)
		wantHas(t, v, pipeOf(q), pipeVal(1, 1, "cd"))
	}
}

func TestP14_4NoPipe(t *testing.T) {
	for _, what := range append([]int{1, 2, 3, 4, 5, 64, -1, -2}, far()...) {
		for _, kind := range []int{reader, writer} {
			s := one(4, val(kind, 1, what, 0, both), put(pipes(), bits(0, 4, 5)))
			for q := range 4 {
				s.Put(pipeOf(q), pipeVal(1, 1, "abc"))
			}
			s.Put(inodeOf(1), inodeVal(fileType, 1, 1, "abc"))
			v := store.Look(s)
			wantIs(t, v, 4, true)
			wantDumb(t, v, 4)
			wantRedo(t, v)
		}
	}
}

// When the last writer's file goes, a reader reads to the end; when the last reader's goes, a write fails.
func TestP14_4OneEndOutlivesTheOther(t *testing.T) {
	v := store.Look(ends(1, pipeVal(1, 1, "abc"), reads, writes))
	wantDup(t, v, 1, true)
	wantClose(t, v, 1, true)
	wantRead(t, v, 0, 2, "ab", done)
	wantRead(t, v, 0, 2, "c", done)
	wantRead(t, v, 0, 2, "", blocks)
	wantWrite(t, v, 1, "de", 2, done)
	wantClose(t, v, 1, true)
	wantNone(t, v, 1)
	wantRead(t, v, 0, 1, "d", done)
	wantRead(t, v, 0, 9, "e", done)
	wantRead(t, v, 0, 9, "", done)
	wantRead(t, v, 0, 9, "", done)
	wantClose(t, v, 0, true)
	wantHas(t, v, pipes(), zero)

	v = store.Look(ends(1, pipeVal(1, 1, "abc"), reads, writes))
	wantClose(t, v, 0, true)
	wantWrite(t, v, 1, "d", -1, fails)
	wantWrite(t, v, 1, "", -1, fails)
	wantHas(t, v, pipeOf(1), pipeVal(0, 1, "abc"))
	wantClose(t, v, 1, true)
	wantHas(t, v, pipeOf(1), zero)
}

// A pipe that went while a file of it was open is none to it.
func TestP14_4ThePipeWent(t *testing.T) {
	v := store.Look(ends(3, pipeVal(1, 1, "abc"), reads, writes))
	v.Put(pipes(), bits(0))
	wantDumb(t, v, 0)
	wantDumb(t, v, 1)
	for f := range 2 {
		wantClose(t, v, f, true)
	}
	wantHas(t, v, pipeOf(3), pipeVal(1, 1, "abc"))
	wantHas(t, v, pipes(), bits(0))
}

// Pipes and files whose ends cross: bytes go from each writer to its reader alone.
func TestP14_4Apart(t *testing.T) {
	s := store.New()
	with(s, put(table(), bits(all()...)), put(pipes(), bits(0, 1, 2, 3)))
	for q := range 4 {
		with(s, put(pipeOf(q), pipeVal(1, 1, "")), put(object(q), val(writer, 1, 3-q, 0, writes)), put(object(4+q), val(reader, 1, q, 0, reads)))
	}
	v := store.Look(s)
	for q := range 4 {
		wantWrite(t, v, q, text(q + 9)[q:], 9, done)
	}
	for q := range 4 {
		wantRead(t, v, 4+q, 5, text(99)[3-q:][:5], done)
		wantRead(t, v, 4+q, 5, text(99)[8-q:][:4], done)
		wantRead(t, v, 4+q, 5, "", blocks)
	}
}
