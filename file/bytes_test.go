package file_test

import (
	"math"
	"testing"

	"cloister/api"
	"cloister/store"
)

// place is a store with the open file 4 of inode 7, at this offset of these bytes.
func place(offset int, bytes string) *store.Store {
	return one(4, val(node, 1, 7, offset, both), put(inodeOf(7), inodeVal(fileType, 1, 1, bytes)))
}

// wantPlace wants that file 4 is at this offset, and its inode has these bytes.
func wantPlace(t *testing.T, v *store.View, offset int, bytes string) {
	t.Helper()
	wantHas(t, v, object(4), val(node, 1, 7, offset, both))
	wantHas(t, v, inodeOf(7), inodeVal(fileType, 1, 1, bytes))
}

// Every offset of files of some sizes, and every n about what is left: these bytes come, and the offset goes on by them.
func TestP14_4EveryPart(t *testing.T) {
	for _, size := range []int{0, 1, 2, 7, 16, 127, 128, 129, 300} {
		s := text(size)
		for off := range size + 1 {
			for n := range size - off + 1 {
				v := store.Look(place(off, s))
				wantRead(t, v, 4, n, s[off:off+n], done)
				wantPlace(t, v, off+n, s)
			}
			for _, n := range []int{size - off + 1, size - off + 2, 256 + size, 1 << 32, math.MaxInt - 1, math.MaxInt} {
				v := store.Look(place(off, s))
				wantRead(t, v, 4, n, s[off:], done)
				wantPlace(t, v, size, s)
				wantRead(t, v, 4, n, "", done)
				wantPlace(t, v, size, s)
			}
		}
	}
}

// Parts one behind the other are the whole, once.
func TestP14_4InParts(t *testing.T) {
	s := text(128)
	for n := 1; n <= 130; n++ {
		v := store.Look(place(0, s))
		for at := 0; at < 128; at += n {
			wantRead(t, v, 4, n, s[at:min(at+n, 128)], done)
		}
		wantRead(t, v, 4, n, "", done)
		wantPlace(t, v, 128, s)
	}
}

// Behind the end, and below 0, there is nothing, and the offset stays.
func TestP14_4OddOffsets(t *testing.T) {
	for _, size := range []int{0, 3, 128, 200} {
		for _, off := range append([]int{size, size + 1, size + 2, size + 256, -1, -2, -3, -128, -256}, far()...) {
			for _, n := range []int{0, 1, 3, 256, math.MaxInt} {
				v := store.Look(place(off, text(size)))
				wantRead(t, v, 4, n, "", done)
				wantPlace(t, v, off, text(size))
			}
		}
	}
}

func TestP14_4BelowNothing(t *testing.T) {
	for _, x := range []api.Value{val(node, 1, 7, 0, both), val(node, 1, 8, 0, both), val(reader, 1, 0, 0, both), val(writer, 1, 0, 0, both), val(node, 1, 7, 0, 0), zero} {
		for _, n := range []int{-1, -2, -3, -256, -1 << 31, -1 << 32, math.MinInt, math.MinInt + 1} {
			v := store.Look(one(4, x, put(inodeOf(7), inodeVal(fileType, 1, 1, "abc")), put(inodeOf(8), inodeVal(deviceType, 1, 1, "")), put(cons(), consVal(0, 0, "typed")), put(pipes(), bits(0)), put(pipeOf(0), pipeVal(1, 1, "abc"))))
			wantRead(t, v, 4, n, "", fails)
			wantRedo(t, v)
		}
	}
}

// modes are modes of all bits about the two, and far from them.
func modes() []int {
	return append([]int{-1, -2, -3, -4, 0, 1, 2, 3, 4, 5, 6, 7, 8, 9, 512, 515}, far()...)
}

// The bit of the mode is asked, and no other of it: of an inode, a console, and both ends of a pipe.
func TestP14_4ModesOfReads(t *testing.T) {
	for _, mode := range modes() {
		for _, x := range []api.Value{val(node, 1, 7, 0, mode), val(node, 1, 8, 0, mode), val(reader, 1, 1, 0, mode), val(writer, 1, 1, 0, mode), val(0, 1, 7, 0, mode), val(4, 1, 7, 0, mode)} {
			s := one(4, x, put(inodeOf(7), inodeVal(fileType, 1, 1, "abcd")), put(inodeOf(8), inodeVal(deviceType, 1, 1, "")), put(cons(), consVal(0, 0, "abcd")), put(pipes(), bits(1)), put(pipeOf(1), pipeVal(1, 1, "abcd")))
			v := store.Look(s)
			if mode%2 == 0 || x.N[0] != node && x.N[0] != reader {
				wantRead(t, v, 4, 3, "", fails)
				wantRedo(t, v)
				continue
			}
			wantRead(t, v, 4, 3, "abc", done)
			wantRead(t, v, 4, 3, "d", done)
		}
	}
}

// So it is for writes.
func TestP14_5ModesOfWrites(t *testing.T) {
	for _, mode := range modes() {
		for _, x := range []api.Value{val(node, 1, 7, 0, mode), val(node, 1, 8, 0, mode), val(reader, 1, 1, 0, mode), val(writer, 1, 1, 0, mode), val(0, 1, 7, 0, mode), val(4, 1, 7, 0, mode)} {
			s := one(4, x, put(inodeOf(7), inodeVal(fileType, 1, 1, "abcd")), put(inodeOf(8), inodeVal(deviceType, 1, 1, "")), put(pipes(), bits(1)), put(pipeOf(1), pipeVal(1, 1, "abcd")))
			v := store.Look(s)
			if mode>>1%2 == 0 || x.N[0] != node && x.N[0] != writer {
				wantWrite(t, v, 4, "xyz", -1, fails)
				wantWrite(t, v, 4, "", -1, fails)
				wantRedo(t, v)
				continue
			}
			wantWrite(t, v, 4, "xyz", 3, done)
			wantWrite(t, v, 4, "", 0, done)
		}
	}
}

// What is of no kind, or of an inode that is none, is neither read nor written, whatever its mode.
func TestP14_4OddKinds(t *testing.T) {
	for _, kind := range append([]int{0, 4, 5, 8, -1, -2, -3}, far()...) {
		v := store.Look(one(4, val(kind, 1, 1, 0, both), put(inodeOf(1), inodeVal(fileType, 1, 1, "abc")), put(pipes(), bits(1)), put(pipeOf(1), pipeVal(1, 1, "abc")), put(cons(), consVal(0, 0, "abc"))))
		wantIs(t, v, 4, true)
		wantDumb(t, v, 4)
		wantRedo(t, v)
	}
}

func TestP14_4NoInode(t *testing.T) {
	for _, what := range append([]int{0, 2, 7, 15, 16, 17, 32, 64, -1, -2}, far()...) {
		s := one(4, val(node, 1, what, 0, both), put(inodes(), bits(2, 7, 15)), put(inodeOf(0), inodeVal(fileType, 1, 1, "abc")), put(inodeOf(1), inodeVal(fileType, 1, 1, "abc")))
		s.Put(inodeOf(7), inodeVal(0, 1, 1, "abc"))
		v := store.Look(s)
		wantIs(t, v, 4, true)
		wantDumb(t, v, 4)
		wantRedo(t, v)
	}
}

// An inode that went while a file of it was open is none; had again, it is what it is now.
func TestP14_4TheInodeWent(t *testing.T) {
	v := store.Look(place(2, "abcdef"))
	wantRead(t, v, 4, 1, "c", done)
	v.Put(inodeOf(7), zero)
	wantDumb(t, v, 4)
	wantHas(t, v, object(4), val(node, 1, 7, 3, both))
	v.Put(inodeOf(7), inodeVal(dirType, 1, 1, "uvwxyz"))
	wantRead(t, v, 4, 2, "xy", done)
	wantStat(t, v, 4, api.Stat{Type: dirType, Inode: 7, Links: 1, Size: 6})
}

// Whatever is no device has its bytes read and written, be it a directory or of an odd type.
func TestP14_4Types(t *testing.T) {
	for _, typ := range append([]int{dirType, fileType, 4, 5, -1, -2, -3}, far()...) {
		for i := 1; i < 16; i++ {
			v := store.Look(one(3, val(node, 2, i, 1, both), put(inodeOf(i), inodeVal(typ, 5, 6, "abcdef")), put(cons(), consVal(1, 2, "typed"))))
			wantRead(t, v, 3, 2, "bc", done)
			wantWrite(t, v, 3, "XY", 2, done)
			wantRead(t, v, 3, 2, "f", done)
			wantWrite(t, v, 3, "Z", 1, done)
			wantRedo(t, v, put(object(3), val(node, 2, i, 7, both)), put(inodeOf(i), inodeVal(typ, 5, 6, "abcXYfZ")))
		}
	}
}

// over is what s has when d is put over it from off on, cut at MaxFile, and how much of d was put.
func over(s string, off int, d string) (string, int) {
	b, n := []byte(s), 0
	for j := range len(d) {
		at := off + j
		switch {
		case at >= maxFile:
			return string(b), n
		case at < len(b):
			b[at] = d[j]
		default:
			b = append(b, d[j])
		}
		n++
	}
	return string(b), n
}

// Every offset of files of some sizes, and texts of some lengths: they are put there, cut at MaxFile.
func TestP14_5EveryPlace(t *testing.T) {
	for _, size := range []int{0, 1, 2, 7, 64, 126, 127, 128, 129, 130, 300} {
		for off := range size + 3 {
			for _, n := range []int{0, 1, 2, 3, 15, 16, 60, 61, 127, 128, 129, 200, 256, 300} {
				d := text(n + 5)[5:]
				v := store.Look(place(off, text(size)))
				then, put := over(text(size), off, d)
				if off > size || off > maxFile || put == 0 && n > 0 {
					wantWrite(t, v, 4, d, -1, fails)
					wantPlace(t, v, off, text(size))
					continue
				}
				wantWrite(t, v, 4, d, put, done)
				wantPlace(t, v, off+put, then)
			}
		}
	}
}

// Parts one behind the other are the whole, up to MaxFile, and no byte more.
func TestP14_5InParts(t *testing.T) {
	s := text(400)
	for n := 1; n <= 130; n++ {
		v := store.Look(place(0, ""))
		at := 0
		for at < maxFile {
			put := min(n, maxFile-at)
			wantWrite(t, v, 4, s[at:at+n], put, done)
			at += put
			wantPlace(t, v, at, s[:at])
		}
		for range 2 {
			wantWrite(t, v, 4, s[:n], -1, fails)
			wantWrite(t, v, 4, "", 0, done)
			wantRead(t, v, 4, n, "", done)
			wantPlace(t, v, 128, s[:128])
		}
	}
}

// At MaxFile nothing is taken, of a file that is longer, too; a write of nothing is done there. Behind it all fails.
func TestP14_5AtMaxFile(t *testing.T) {
	for _, size := range []int{128, 129, 200} {
		s := text(size)
		v := store.Look(place(128, s))
		for _, d := range []string{"x", "xy", text(300)} {
			wantWrite(t, v, 4, d, -1, fails)
			wantPlace(t, v, 128, s)
		}
		wantWrite(t, v, 4, "", 0, done)
		wantPlace(t, v, 128, s)
		v = store.Look(place(127, s))
		wantWrite(t, v, 4, "xy", 1, done)
		wantPlace(t, v, 128, s[:127]+"x"+s[128:])
		for off := 129; off <= size; off++ {
			v = store.Look(place(off, s))
			wantWrite(t, v, 4, "", -1, fails)
			wantWrite(t, v, 4, "x", -1, fails)
			wantRedo(t, v)
		}
	}
}

// Below 0 and behind the end all fails, a write of nothing too; nothing is written and the offset stays.
func TestP14_5OddOffsets(t *testing.T) {
	for _, size := range []int{0, 3, 127, 128, 200} {
		for _, off := range append([]int{size + 1, size + 2, size + 256, -1, -2, -3, -128, -256}, far()...) {
			v := store.Look(place(off, text(size)))
			for _, d := range []string{"", "x", text(128), text(300)} {
				wantWrite(t, v, 4, d, -1, fails)
			}
			wantRedo(t, v)
		}
	}
}

// A nought, or half a letter, is a byte as any other.
func TestP14_5Bytes(t *testing.T) {
	v := store.Look(place(0, ""))
	wantWrite(t, v, 4, "\x00a\x00", 3, done)
	wantWrite(t, v, 4, "é水", 5, done)
	wantWrite(t, v, 4, "\xff", 1, done)
	v.Put(object(4), val(node, 1, 7, 0, both))
	wantRead(t, v, 4, 4, "\x00a\x00\xc3", done)
	wantRead(t, v, 4, 2, "\xa9\xe6", done)
	wantRead(t, v, 4, 9, "\xb0\xb4\xff", done)
	v.Put(object(4), val(node, 1, 7, 126, both))
	v.Put(inodeOf(7), inodeVal(fileType, 1, 1, text(126)))
	wantWrite(t, v, 4, "水", 2, done)
	wantHas(t, v, inodeOf(7), inodeVal(fileType, 1, 1, text(126)+"\xe6\xb0"))
}

// All else that the file and its inode have stays, be it odd.
func TestP14_5AllElseStays(t *testing.T) {
	s := full(odd | every)
	x, i := s.Get(object(8)), s.Get(inodeOf(3))
	x.N[0], x.N[2], x.N[3], x.N[4] = node, 3, 2, both
	i.S = "abcdef"
	with(s, put(object(8), x), put(inodeOf(3), i))
	v := store.Look(s)
	wantRead(t, v, 8, 2, "cd", done)
	x.N[3] = 4
	wantRedo(t, v, put(object(8), x))
	wantWrite(t, v, 8, "XYZ", 3, done)
	x.N[3], i.S = 7, "abcdXYZ"
	wantRedo(t, v, put(object(8), x), put(inodeOf(3), i))
	wantDup(t, v, 8, true)
	x.N[1]++
	wantClose(t, v, 8, true)
	x.N[1]--
	wantRedo(t, v, put(object(8), x), put(inodeOf(3), i))
}
