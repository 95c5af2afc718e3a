package pipe_test

import (
	"math"
	"testing"

	"cloister/api"
	"cloister/store"
)

// one is a store that has the pipe q with this value, and no other pipe.
func one(q int, x api.Value) *store.Store {
	s := store.New()
	s.Put(table(), bits(q))
	s.Put(object(q), x)
	return s
}

// Every size of what is in a pipe, longer than MaxPipe too, and every n about it: the first n come, the others stay.
func TestP13_3EveryPart(t *testing.T) {
	for size := range maxPipe + 20 {
		s := text(size)
		for n := range size + 1 {
			v := store.Look(one(1, val(1, 1, s)))
			if n == 0 {
				wantRead(t, v, 1, 0, "", done)
				wantHas(t, v, object(1), val(1, 1, s))
				continue
			}
			wantRead(t, v, 1, n, s[:n], done)
			wantHas(t, v, object(1), val(1, 1, s[n:]))
			if n < size {
				wantRead(t, v, 1, 999, s[n:], done)
			}
			wantRead(t, v, 1, 1, "", blocks)
		}
		for _, n := range []int{size + 1, size + 2, 256 + size, 1 << 32, math.MaxInt - 1, math.MaxInt} {
			v := store.Look(one(1, val(1, 1, s)))
			if size == 0 {
				wantRead(t, v, 1, n, "", blocks)
			} else {
				wantRead(t, v, 1, n, s, done)
			}
			wantHas(t, v, object(1), val(1, 1, ""))
		}
	}
}

// A read of nothing is done, whatever is in the pipe and whoever has it.
func TestP13_3NothingAtAll(t *testing.T) {
	for _, x := range []api.Value{zero, val(1, 1, ""), val(1, 0, ""), val(0, 1, ""), val(1, 1, "abc"), val(0, 0, "abc"), val(-1, -1, text(40))} {
		v := store.Look(one(2, x))
		wantRead(t, v, 2, 0, "", done)
		wantHas(t, v, object(2), x)
	}
}

func TestP13_3BelowNothing(t *testing.T) {
	for _, x := range []api.Value{zero, val(1, 1, ""), val(1, 0, ""), val(1, 1, "abc"), val(1, 1, text(16))} {
		for _, n := range []int{-1, -2, -16, -256, -1 << 31, -1 << 32, math.MinInt, math.MinInt + 1} {
			v := store.Look(one(2, x))
			wantRead(t, v, 2, n, "", fails)
			wantHas(t, v, object(2), x)
		}
	}
}

// An empty pipe: its end is told if nobody writes, else one waits; how many read it is no matter.
func TestP13_3Empty(t *testing.T) {
	for _, readers := range counts() {
		for _, writers := range counts() {
			state := blocks
			if writers < 1 {
				state = done
			}
			v := store.Look(one(0, val(readers, writers, "")))
			for _, n := range []int{1, 2, 16, 17, math.MaxInt} {
				wantRead(t, v, 0, n, "", state)
			}
			wantHas(t, v, object(0), val(readers, writers, ""))
		}
	}
}

// What is in a pipe is read whoever has it; all else of it stays.
func TestP13_3WhoeverHasIt(t *testing.T) {
	for _, readers := range counts() {
		for _, writers := range counts() {
			x := full(0).Get(object(3))
			x.N[0], x.N[1], x.S = readers, writers, "abcd"
			v := store.Look(one(3, x))
			wantRead(t, v, 3, 3, "abc", done)
			x.S = "d"
			wantHas(t, v, object(3), x)
			wantRead(t, v, 3, 3, "d", done)
			x.S = ""
			wantHas(t, v, object(3), x)
		}
	}
}

// A nought, or half a letter, is a byte as any other.
func TestP13_3Bytes(t *testing.T) {
	v := store.Look(one(1, val(1, 1, "\x00a\x00é水\xff")))
	wantRead(t, v, 1, 3, "\x00a\x00", done)
	wantRead(t, v, 1, 1, "\xc3", done)
	wantRead(t, v, 1, 2, "\xa9\xe6", done)
	wantRead(t, v, 1, 9, "\xb0\xb4\xff", done)
	wantWrite(t, v, 1, "\x00", 1, done)
	wantWrite(t, v, 1, "\x00\xff\x00", 3, done)
	wantRead(t, v, 1, 9, "\x00\x00\xff\x00", done)
	wantWrite(t, v, 1, "水水水水水水", 16, done)
	wantRead(t, v, 1, 99, "水水水水水\xe6", done)
}

// Every size of what is in a pipe, and every length about its room: as many as there is room for are put behind.
func TestP13_4EveryRoom(t *testing.T) {
	for size := range maxPipe + 1 {
		room := maxPipe - size
		for n := 1; n <= maxPipe+4; n++ {
			in, d := text(size), text(n + 100)[100:]
			v := store.Look(one(1, val(1, 1, in)))
			switch {
			case room == 0:
				wantWrite(t, v, 1, d, 0, blocks)
				wantHas(t, v, object(1), val(1, 1, in))
			case n <= room:
				wantWrite(t, v, 1, d, n, done)
				wantHas(t, v, object(1), val(1, 1, in+d))
			default:
				wantWrite(t, v, 1, d, room, done)
				wantHas(t, v, object(1), val(1, 1, in+d[:room]))
			}
		}
	}
}

func TestP13_4LongTexts(t *testing.T) {
	for _, n := range []int{17, 32, 255, 256, 257, 65535, 65536, 65537, 1 << 20} {
		d := text(n)
		v := store.Look(one(1, val(1, 1, "")))
		wantWrite(t, v, 1, d, 16, done)
		wantHas(t, v, object(1), val(1, 1, d[:16]))
		wantWrite(t, v, 1, d, 0, blocks)
		wantRead(t, v, 1, 1, d[:1], done)
		wantWrite(t, v, 1, d, 1, done)
		wantHas(t, v, object(1), val(1, 1, d[1:16]+d[:1]))
	}
}

// MaxPipe bytes or more: it is full. A pipe that was overfull is written again as soon as it has room.
func TestP13_4Full(t *testing.T) {
	for _, size := range []int{16, 17, 18, 31, 32, 33, 40, 255, 256, 257, 272, 1000, 1 << 16} {
		v := store.Look(one(1, val(1, 1, text(size))))
		for _, n := range []int{1, 2, 15, 16, 17, 300} {
			wantWrite(t, v, 1, text(n), 0, blocks)
		}
		wantWrite(t, v, 1, "", 0, done)
		wantHas(t, v, object(1), val(1, 1, text(size)))
		for left := text(size); len(left) > 16; {
			n := max(1, len(left)-20)
			wantRead(t, v, 1, n, left[:n], done)
			wantWrite(t, v, 1, "x", 0, blocks)
			left = left[n:]
			wantHas(t, v, object(1), val(1, 1, left))
		}
		wantRead(t, v, 1, 1, text(size)[size-16:][:1], done)
		wantWrite(t, v, 1, "yz", 1, done)
		wantRead(t, v, 1, 99, text(size)[size-15:]+"y", done)
	}
}

// An empty text is done, be the pipe full, but fails as any if nobody reads.
func TestP13_4Empty(t *testing.T) {
	for _, readers := range counts() {
		for _, size := range []int{0, 1, 15, 16, 17, 40} {
			x := val(readers, 1, text(size))
			v := store.Look(one(1, x))
			if readers < 1 {
				wantWrite(t, v, 1, "", -1, fails)
			} else {
				wantWrite(t, v, 1, "", 0, done)
			}
			wantHas(t, v, object(1), x)
		}
	}
}

// Nobody reads: it fails, full or not; how many write is no matter, and all else of the pipe stays.
func TestP13_4WhoeverHasIt(t *testing.T) {
	for _, readers := range counts() {
		for _, writers := range counts() {
			x := full(0).Get(object(3))
			x.N[0], x.N[1], x.S = readers, writers, text(14)
			v := store.Look(one(3, x))
			if readers < 1 {
				wantWrite(t, v, 3, "abc", -1, fails)
				wantHas(t, v, object(3), x)
				x.S = text(16)
				v.Put(object(3), x)
				wantWrite(t, v, 3, "abc", -1, fails)
			} else {
				wantWrite(t, v, 3, "abc", 2, done)
				x.S += "ab"
				wantHas(t, v, object(3), x)
				wantWrite(t, v, 3, "abc", 0, blocks)
			}
			wantHas(t, v, object(3), x)
		}
	}
}

// All sizes of writes and reads, one after the other: what was taken comes out, in its order, once.
func TestP13_6InItsOrderOnce(t *testing.T) {
	for w := 1; w <= maxPipe+2; w++ {
		for r := 1; r <= maxPipe+2; r++ {
			v := store.Look(store.New())
			wantAlloc(t, v, 0)
			stream := text(200)
			in, out := 0, 0
			for out < len(stream) {
				if in < len(stream) {
					n := min(w, len(stream)-in, maxPipe-(in-out))
					if n == 0 {
						wantWrite(t, v, 0, stream[in:min(in+w, len(stream))], 0, blocks)
					} else {
						wantWrite(t, v, 0, stream[in:min(in+w, len(stream))], n, done)
					}
					in += n
				}
				n := min(r, in-out)
				wantRead(t, v, 0, r, stream[out:out+n], done)
				out += n
			}
			wantRead(t, v, 0, r, "", blocks)
			wantHas(t, v, object(0), val(1, 1, ""))
		}
	}
}

// Four pipes at once, each with bytes of its own, none of which comes out of another.
func TestP13_6ApartFromOthers(t *testing.T) {
	v := store.Look(store.New())
	streams := []string{text(150), text(151)[1:], text(152)[2:], text(153)[3:]}
	var in, out [maxPipes]int
	for _, q := range all() {
		wantAlloc(t, v, q)
	}
	n := uint32(1)
	for range 400 {
		n = n*1664525 + 1013904223
		q, size := int(n>>8)%maxPipes, int(n>>16)%20+1
		if n>>30%2 == 0 && in[q] < len(streams[q]) {
			d := streams[q][in[q]:min(in[q]+size, len(streams[q]))]
			if room := maxPipe - (in[q] - out[q]); room == 0 {
				wantWrite(t, v, q, d, 0, blocks)
			} else {
				wantWrite(t, v, q, d, min(room, len(d)), done)
				in[q] += min(room, len(d))
			}
		} else if in[q] == out[q] {
			wantRead(t, v, q, size, "", blocks)
		} else {
			next := min(out[q]+size, in[q])
			wantRead(t, v, q, size, streams[q][out[q]:next], done)
			out[q] = next
		}
		for p := range in {
			wantHas(t, v, object(p), val(1, 1, streams[p][out[p]:in[p]]))
		}
	}
	wantHas(t, v, table(), bits(all()...))
}
