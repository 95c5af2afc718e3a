package inode_test

import (
	"math"
	"strings"
	"testing"

	"cloister/api"
	"cloister/inode"
	"cloister/store"
)

// text is n bytes, no two of which within 200 are the same; some are noughts, and some are no letters.
func text(n int) string {
	b := make([]byte, n)
	for i := range b {
		b[i] = byte(37*i + i/256)
	}
	return string(b)
}

// part is what Read must answer, told byte by byte.
func part(s string, off, n int) string {
	var b []byte
	for j := range len(s) {
		if off >= 0 && j >= off && j-off < n {
			b = append(b, s[j])
		}
	}
	return string(b)
}

// over is what Write must leave and answer, told byte by byte.
func over(s string, off int, d string) (string, int) {
	if off < 0 || off > 128 || off > len(s) {
		return s, -1
	}
	b, n := []byte(s), 0
	for j := 0; j < len(d) && off+j < 128; j++ {
		if off+j < len(b) {
			b[off+j] = d[j]
		} else {
			b = append(b, d[j])
		}
		n++
	}
	return string(b), n
}

// sizes are sizes of files about 0 and MaxFile, some within, and some that no write makes.
func sizes() []int { return []int{0, 1, 2, 3, 17, 64, 126, 127, 128, 129, 130, 200, 300} }

// offs are all places about a file of so many bytes, and some far from all.
func offs(size int) []int {
	l := far()
	for off := -3; off <= max(size, maxFile)+3; off++ {
		l = append(l, off)
	}
	return l
}

func TestP10_4EveryPart(t *testing.T) {
	for _, size := range sizes() {
		s := text(size)
		v := store.Look(one(3, val(api.TFile, 1, 0, s)))
		for _, off := range offs(size) {
			for _, n := range offs(size) {
				if got, want := inode.Read(v, 3, off, n), part(s, off, n); got != want {
					t.Fatalf("of %d bytes Read(%d, %d): %q, not %q", size, off, n, got, want)
				}
			}
		}
		wantHas(t, v, object(3), val(api.TFile, 1, 0, s))
	}
}

func TestP10_4Parts(t *testing.T) {
	v := store.Look(one(1, val(api.TFile, 0, 0, "abcdef")))
	for _, q := range []struct {
		off, n int
		want   string
	}{
		{0, 6, "abcdef"}, {0, 7, "abcdef"}, {0, 1, "a"}, {0, 0, ""}, {0, -1, ""}, {5, 1, "f"}, {5, 9, "f"}, {6, 1, ""}, {7, 1, ""}, {2, 3, "cde"},
		{-1, 9, ""}, {-6, 9, ""}, {math.MinInt, math.MaxInt, ""}, {math.MaxInt, math.MaxInt, ""}, {math.MaxInt, 1, ""}, {1, math.MaxInt, "bcdef"},
		{0, math.MaxInt, "abcdef"}, {5, math.MaxInt, "f"}, {6, math.MaxInt, ""}, {0, math.MinInt, ""}, {3, math.MinInt, ""},
	} {
		wantRead(t, v, 1, q.off, q.n, q.want)
	}
}

func TestP10_4NoInode(t *testing.T) {
	s := full()
	for _, i := range strangers() {
		for _, n := range []int{1, 9, math.MaxInt} {
			wantRead(t, store.Look(s), i, 0, n, "")
			wantRead(t, store.Look(s), i, 2, n, "")
		}
	}
	for _, i := range all() {
		wantRead(t, store.Look(one(i, val(0, 1, 1, "abc"))), i, 0, 9, "")
		wantRead(t, store.Look(one(i, val(math.MinInt, 0, 0, "abc"))), i, 0, 9, "abc")
	}
}

// A nought, or half a letter, is a byte as any other.
func TestP10_4Bytes(t *testing.T) {
	v := store.Look(one(1, val(api.TFile, 0, 0, "\x00a\x00é水\xff")))
	wantRead(t, v, 1, 0, 3, "\x00a\x00")
	wantRead(t, v, 1, 3, 1, "\xc3")
	wantRead(t, v, 1, 4, 2, "\xa9\xe6")
	wantRead(t, v, 1, 6, 9, "\xb0\xb4\xff")
}

func TestP10_5EveryPlace(t *testing.T) {
	for _, size := range sizes() {
		s := text(size)
		of := one(3, val(api.TFile, 4, 5, s))
		for _, off := range offs(size) {
			for _, n := range []int{0, 1, 2, 3, 16, 63, 64, 125, 126, 127, 128, 129, 200, 1000} {
				d := text(n + 5)[5:]
				want, many := over(s, off, d)
				v := store.Look(of)
				if got := inode.Write(v, 3, off, d); got != many {
					t.Fatalf("into %d bytes Write(%d, %d bytes): %d, not %d", size, off, n, got, many)
				}
				if got := v.Get(object(3)); got != val(api.TFile, 4, 5, want) {
					t.Fatalf("into %d bytes Write(%d, %d bytes): %v, not %q", size, off, n, got, want)
				}
			}
		}
	}
}

// The limits by hand: a file's size, and MaxFile.
func TestP10_5Edges(t *testing.T) {
	for _, q := range []struct {
		size, off, n, want, then int
	}{
		{0, 0, 128, 128, 128}, {0, 0, 127, 127, 127}, {0, 0, 129, 128, 128}, {0, 0, 1 << 20, 128, 128}, {0, 1, 1, -1, 0}, {0, -1, 1, -1, 0},
		{10, 10, 1, 1, 11}, {10, 11, 1, -1, 10}, {10, 10, 118, 118, 128}, {10, 10, 119, 118, 128}, {10, 9, 1, 1, 10}, {10, 9, 2, 2, 11}, {10, 0, 1, 1, 10}, {10, 10, 0, 0, 10}, {10, 11, 0, -1, 10},
		{127, 127, 1, 1, 128}, {127, 127, 2, 1, 128}, {127, 128, 1, -1, 127}, {127, 128, 0, -1, 127}, {127, 126, 9, 2, 128},
		{128, 127, 1, 1, 128}, {128, 127, 9, 1, 128}, {128, 128, 1, 0, 128}, {128, 128, 0, 0, 128}, {128, 128, 999, 0, 128}, {128, 129, 1, -1, 128}, {128, 129, 0, -1, 128}, {128, 0, 128, 128, 128}, {128, 0, 129, 128, 128},
		{200, 0, 200, 128, 200}, {200, 127, 9, 1, 200}, {200, 128, 9, 0, 200}, {200, 129, 9, -1, 200}, {200, 200, 9, -1, 200}, {200, 199, 0, -1, 200},
		{128, math.MaxInt, 1, -1, 128}, {128, math.MinInt, 1, -1, 128}, {128, -1, 0, -1, 128},
	} {
		v := store.Look(one(15, val(api.TFile, 1, 1, strings.Repeat("x", q.size))))
		wantWrite(t, v, 15, q.off, strings.Repeat("y", q.n), q.want)
		wantIs(t, v, 15, api.TFile, 1, q.then)
		if n := strings.Count(v.Get(object(15)).S, "y"); n != max(q.want, 0) {
			t.Errorf("%v: %d bytes were put", q, n)
		}
	}
}

func TestP10_5BytesBehindStay(t *testing.T) {
	v := store.Look(store.New())
	wantAlloc(t, v, api.TFile, 1, true)
	for _, q := range []struct {
		off  int
		d    string
		want string
	}{
		{0, "abcdef", "abcdef"}, {2, "XY", "abXYef"}, {0, "", "abXYef"}, {6, "", "abXYef"}, {6, "g", "abXYefg"}, {5, "123", "abXYe123"}, {0, "z", "zbXYe123"},
		{7, "4", "zbXYe124"}, {3, "\x00\xff", "zbX\x00\xff124"}, {0, "12345678", "12345678"}, {8, "9", "123456789"},
	} {
		wantWrite(t, v, 1, q.off, q.d, len(q.d))
		wantHas(t, v, object(1), val(api.TFile, 0, 0, q.want))
		wantRead(t, v, 1, 0, 99, q.want)
	}
}

// What an inode has beside its bytes stays, whatever it is.
func TestP10_5AllElseStays(t *testing.T) {
	for _, i := range all() {
		v := store.Look(full())
		x := full().Get(object(i))
		s, n := over(x.S, 2, "new")
		wantWrite(t, v, i, 2, "new", n)
		x.S = s
		wantHas(t, v, object(i), x)
	}
	for _, typ := range append([]int{1, 2, 3, 4, -1}, far()...) {
		v := store.Look(one(2, val(typ, math.MinInt, -1, "abc")))
		wantWrite(t, v, 2, 1, "B", 1)
		wantHas(t, v, object(2), val(typ, math.MinInt, -1, "aBc"))
	}
}

func TestP10_5NoInode(t *testing.T) {
	for _, i := range strangers() {
		v := store.Look(full())
		wantWrite(t, v, i, 0, "abc", -1)
		wantWrite(t, v, i, 0, "", -1)
		wantWrite(t, v, i, math.MaxInt, "abc", -1)
		if len(v.Foot()) != 0 {
			t.Errorf("Write of inode %d: %v", i, v.Foot())
		}
	}
	for _, i := range all() {
		v := store.Look(one(i, val(0, 1, 1, "abc")))
		wantWrite(t, v, i, 0, "x", -1)
		wantHas(t, v, object(i), val(0, 1, 1, "abc"))
	}
}

// Each byte there is, at each place of a file of MaxFile bytes.
func TestP10_6EveryByteAtEveryPlace(t *testing.T) {
	v := store.Look(store.New())
	inode.Alloc(v, api.TFile)
	b := []byte(text(maxFile))
	wantWrite(t, v, 1, 0, string(b), maxFile)
	for x := range 256 {
		for off := range maxFile {
			b[off] = byte(x + off)
			wantWrite(t, v, 1, off, string(b[off:off+1]), 1)
			wantRead(t, v, 1, off, 1, string(b[off:off+1]))
		}
		wantRead(t, v, 1, 0, maxFile, string(b))
	}
}

// Files that grow piece by piece, beside each other, to MaxFile: each one is of its own pieces.
func TestP10_6BesideEachOther(t *testing.T) {
	v := store.Look(store.New())
	for _, i := range all() {
		wantAlloc(t, v, 100+i, i, true)
	}
	var files [maxInodes]string
	for step := range 60 {
		for _, i := range all() {
			d := text(i + step)[step:]
			n := min(len(d), maxFile-len(files[i]))
			wantWrite(t, v, i, len(files[i]), d, n)
			files[i] += d[:n]
			for _, other := range all() {
				wantRead(t, v, other, 0, 999, files[other])
				wantIs(t, v, other, 100+other, 0, len(files[other]))
			}
		}
	}
	if len(files[1]) != 60 || len(files[2]) != 120 || len(files[3]) != maxFile || len(files[15]) != maxFile {
		t.Errorf("sizes %d, %d, %d, %d", len(files[1]), len(files[2]), len(files[3]), len(files[15]))
	}
}
