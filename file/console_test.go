package file_test

import (
	"math"
	"testing"

	"cloister/api"
	"cloister/store"
)

// desk is a store with the open file 2 of the device 5, and a console.
func desk(x api.Value) *store.Store {
	return one(2, val(node, 1, 5, 0, both), put(inodeOf(5), inodeVal(deviceType, 1, 1, "")), put(cons(), x))
}

// Every size of what was typed, longer than may wait there too, and every n about it.
func TestP14_6EveryPart(t *testing.T) {
	for size := range 70 {
		s := text(size)
		for n := range size + 1 {
			v := store.Look(desk(consVal(4, 5, s)))
			wantRead(t, v, 2, n, s[:n], done)
			if n == 0 {
				wantRedo(t, v)
			} else {
				wantRedo(t, v, put(cons(), consVal(4, 5, s[n:])))
			}
			if n < size {
				wantRead(t, v, 2, 999, s[n:], done)
			}
			wantRead(t, v, 2, 1, "", blocks)
			wantRead(t, v, 2, 0, "", done)
		}
		for _, n := range []int{size + 1, size + 2, size + 256, 1 << 32, math.MaxInt - 1, math.MaxInt} {
			v := store.Look(desk(consVal(4, 5, s)))
			if size == 0 {
				wantRead(t, v, 2, n, "", blocks)
				wantRedo(t, v)
				continue
			}
			wantRead(t, v, 2, n, s, done)
			wantRedo(t, v, put(cons(), consVal(4, 5, "")))
		}
	}
}

// Below nothing fails, as of any file; that is asked ahead of the console.
func TestP14_6BelowNothing(t *testing.T) {
	for _, n := range []int{-1, -2, -64, -1 << 32, math.MinInt} {
		for _, s := range []string{"", "abc"} {
			v := store.Look(desk(consVal(0, 0, s)))
			wantRead(t, v, 2, n, "", fails)
			wantRedo(t, v)
		}
	}
}

// The number, by hand: of the empty text, and byte behind byte.
func TestP14_6TheNumber(t *testing.T) {
	v := store.Look(desk(consVal(0, 0, "typed")))
	for _, q := range []struct {
		d          string
		count, sum int
	}{
		{"", 0, 0}, {"a", 1, 97}, {"b", 2, 31*97 + 98}, {"", 2, 31*97 + 98}, {"\x00", 3, 31 * 3105}, {"\xff", 4, 31*96255 + 255}, {"水", 7, 31*(31*(31*2984160+0xe6)+0xb0) + 0xb4},
	} {
		wantWrite(t, v, 2, q.d, len(q.d), done)
		wantRedo(t, v, put(cons(), consVal(q.count, q.sum, "typed")))
	}
	v = store.Look(desk(zero))
	wantWrite(t, v, 2, "ab\x00\xff水", 7, done)
	wantRedo(t, v, put(cons(), consVal(7, 31*(31*(31*2984160+0xe6)+0xb0)+0xb4, "")))
}

// after is what a console has behind these bytes, told by sums that can't but go round.
func after(x api.Value, d string) api.Value {
	count, sum := uint64(x.N[0]), uint64(x.N[1])
	for j := range len(d) {
		count++
		sum = sum<<5 - sum + uint64(d[j])
	}
	x.N[0], x.N[1] = int(count), int(sum)
	return x
}

// Many bytes, whose number goes round; it is the same whether they are written at once or in parts.
func TestP14_6ManyBytes(t *testing.T) {
	for _, n := range []int{1, 2, 12, 13, 14, 64, 65, 128, 129, 255, 256, 1000, 1 << 16} {
		d := text(n)
		want := after(consVal(0, 0, "x"), d)
		v := store.Look(desk(consVal(0, 0, "x")))
		wantWrite(t, v, 2, d, n, done)
		wantHas(t, v, cons(), want)
		for _, part := range []int{1, 7, 100} {
			v = store.Look(desk(consVal(0, 0, "x")))
			for at := 0; at < n; at += part {
				wantWrite(t, v, 2, d[at:min(at+part, n)], min(part, n-at), done)
			}
			wantHas(t, v, cons(), want)
		}
	}
	// both signs are had on the way
	v, below := store.Look(desk(zero)), 0
	for j := range 40 {
		wantWrite(t, v, 2, text(40)[j:j+1], 1, done)
		if v.Get(cons()).N[1] < 0 {
			below++
		}
	}
	if below == 0 || below == 40 {
		t.Error(below)
	}
}

// A console of any numbers: both go round as ints do.
func TestP14_6AnyNumbers(t *testing.T) {
	for _, count := range counts() {
		for _, sum := range append(counts(), far()...) {
			for _, d := range []string{"", "\x00", "a", "\xff", "abc", text(50)} {
				v := store.Look(desk(consVal(count, sum, "typed")))
				wantWrite(t, v, 2, d, len(d), done)
				wantRedo(t, v, put(cons(), after(consVal(count, sum, "typed"), d)))
				wantRead(t, v, 2, 4, "type", done)
			}
		}
	}
}

// All else that the console has stays; what is typed isn't what is written.
func TestP14_6AllElseStays(t *testing.T) {
	s := full(odd | every)
	x := s.Get(cons())
	x.S = "typed"
	with(s, put(cons(), x), put(object(9), val(node, 1, 15, 0, both)), put(inodeOf(15), inodeVal(deviceType, 1, 1, "abc")))
	v := store.Look(s)
	wantWrite(t, v, 9, "xyz", 3, done)
	x = after(x, "xyz")
	wantRedo(t, v, put(cons(), x))
	wantRead(t, v, 9, 3, "typ", done)
	x.S = "ed"
	wantRedo(t, v, put(cons(), x))
	wantRead(t, v, 9, 3, "ed", done)
	wantRead(t, v, 9, 3, "", blocks)
}

// The offset is nothing to a console, and doesn't go on; nor are its inode's own bytes.
func TestP14_6NoOffset(t *testing.T) {
	for _, off := range append([]int{1, 2, 127, 128, 129, -1}, far()...) {
		for _, bytes := range []string{"", "inode"} {
			v := store.Look(with(desk(consVal(1, 2, "typed")), put(object(2), val(node, 1, 5, off, both)), put(inodeOf(5), inodeVal(deviceType, 1, 1, bytes))))
			wantRead(t, v, 2, 3, "typ", done)
			wantWrite(t, v, 2, text(300), 300, done)
			wantWrite(t, v, 2, "", 0, done)
			wantRead(t, v, 2, 3, "ed", done)
			wantRedo(t, v, put(cons(), after(consVal(1, 2, ""), text(300))))
		}
	}
}

// There is one console, whichever inode and file it is reached through.
func TestP14_6OneConsole(t *testing.T) {
	s := with(store.New(), put(table(), bits(all()...)), put(cons(), consVal(0, 0, text(60))))
	for _, f := range all() {
		with(s, put(object(f), val(node, 1, f+2, 0, both)), put(inodeOf(f+2), inodeVal(deviceType, 1, 1, "")))
	}
	v := store.Look(s)
	for _, f := range all() {
		wantRead(t, v, f, 5, text(60)[5*f:5*f+5], done)
		wantWrite(t, v, f, "abcdefghijkl"[f:f+1], 1, done)
	}
	wantRead(t, v, 0, 1, "", blocks)
	wantRedo(t, v, put(cons(), after(zero, "abcdefghijkl")))
}

// A reader that waited reads what is typed then.
func TestP14_6TypedLater(t *testing.T) {
	v := store.Look(desk(zero))
	wantRead(t, v, 2, 9, "", blocks)
	v.Put(cons(), consVal(0, 0, "go\n"))
	wantRead(t, v, 2, 9, "go\n", done)
	wantRead(t, v, 2, 9, "", blocks)
}
