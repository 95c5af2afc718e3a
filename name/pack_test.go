package name_test

import (
	"math"
	"strings"
	"testing"

	"cloister/name"
)

func wantPack(t *testing.T, s string, n int, want string) {
	t.Helper()
	if got := name.Pack(s, n); got != want {
		t.Errorf("Pack(%q, %d): %q, not %q", s, n, got, want)
	}
}

func wantUnpack(t *testing.T, e, s string, n int) {
	t.Helper()
	if gotS, gotN := name.Unpack(e); gotS != s || gotN != n {
		t.Errorf("Unpack(%q): %q, %d, not %q, %d", e, gotS, gotN, s, n)
	}
}

func noughts(n int) string { return strings.Repeat("\x00", n) }

// numbers are numbers with their lowest two bytes, the lower first, by hand.
func numbers() []struct {
	n     int
	bytes string
	back  int
} {
	return []struct {
		n     int
		bytes string
		back  int
	}{
		{0, "\x00\x00", 0}, {1, "\x01\x00", 1}, {15, "\x0f\x00", 15}, {16, "\x10\x00", 16}, {127, "\x7f\x00", 127}, {128, "\x80\x00", 128},
		{255, "\xff\x00", 255}, {256, "\x00\x01", 256}, {257, "\x01\x01", 257}, {258, "\x02\x01", 258}, {0x1234, "\x34\x12", 0x1234},
		{32767, "\xff\x7f", 32767}, {32768, "\x00\x80", 32768}, {65280, "\x00\xff", 65280}, {65534, "\xfe\xff", 65534}, {65535, "\xff\xff", 65535},
		{65536, "\x00\x00", 0}, {65537, "\x01\x00", 1}, {0x123456, "\x56\x34", 0x3456}, {1 << 31, "\x00\x00", 0}, {1<<31 - 1, "\xff\xff", 65535}, {1<<32 + 258, "\x02\x01", 258},
		{-1, "\xff\xff", 65535}, {-2, "\xfe\xff", 65534}, {-255, "\x01\xff", 65281}, {-256, "\x00\xff", 65280}, {-257, "\xff\xfe", 65279}, {-258, "\xfe\xfe", 65278},
		{-32768, "\x00\x80", 32768}, {-65535, "\x01\x00", 1}, {-65536, "\x00\x00", 0}, {-65537, "\xff\xff", 65535}, {-1 << 31, "\x00\x00", 0},
		{math.MaxInt, "\xff\xff", 65535}, {math.MaxInt - 1, "\xfe\xff", 65534}, {math.MinInt, "\x00\x00", 0}, {math.MinInt + 1, "\x01\x00", 1},
	}
}

func TestP9_3EveryLengthWithManyNumbers(t *testing.T) {
	for n := range 15 {
		s := letters[:n]
		for _, q := range numbers() {
			e := s + noughts(14-n) + q.bytes
			wantPack(t, s, q.n, e)
			wantUnpack(t, e, s, q.back)
		}
	}
}

// Texts that have no room are cut behind MaxName bytes, be it within a letter.
func TestP9_3LongTextsAreCut(t *testing.T) {
	for _, q := range numbers() {
		for n := 14; n <= 26; n++ {
			wantPack(t, letters[:n], q.n, "abcdefghijklmn"+q.bytes)
		}
		wantPack(t, strings.Repeat("x", 1<<20), q.n, "xxxxxxxxxxxxxx"+q.bytes)
		wantPack(t, "abcdefghijklmé", q.n, "abcdefghijklm\xc3"+q.bytes)
		wantPack(t, strings.Repeat("水", 5), q.n, "水水水水\xe6\xb0"+q.bytes)
	}
}

// Pack takes any bytes as they are, slashes and noughts too: what stands behind a nought is in the entry, and is not told.
func TestP9_3TextsThatAreNoNames(t *testing.T) {
	wantPack(t, "a\x00b", 258, "a\x00b"+noughts(11)+"\x02\x01")
	wantUnpack(t, "a\x00b"+noughts(11)+"\x02\x01", "a", 258)
	wantPack(t, "\x00b", 7, "\x00b"+noughts(12)+"\x07\x00")
	wantUnpack(t, "\x00b"+noughts(12)+"\x07\x00", "", 7)
	wantPack(t, "a/b", 7, "a/b"+noughts(11)+"\x07\x00")
	wantUnpack(t, "a/b"+noughts(11)+"\x07\x00", "a/b", 7)
	wantPack(t, "\xff\xc3", 7, "\xff\xc3"+noughts(12)+"\x07\x00")
	wantUnpack(t, "\xff\xc3"+noughts(12)+"\x07\x00", "\xff\xc3", 7)
	wantPack(t, noughts(20), -1, noughts(14)+"\xff\xff")
	wantUnpack(t, noughts(14)+"\xff\xff", "", 65535)
}

// Each byte there is, at each place of an entry.
func TestP9_3EveryByteAtEveryPlace(t *testing.T) {
	for b := range 256 {
		for i := range 14 {
			s := put("abcdefghijklmn", i, byte(b))
			wantPack(t, s, 0x6261, s+"ab")
			if b == 0 {
				wantUnpack(t, s+"ab", letters[:i], 0x6261)
			} else {
				wantUnpack(t, s+"ab", s, 0x6261)
			}
		}
		x := string([]byte{byte(b)})
		wantPack(t, "abcdefghijklmn", b, "abcdefghijklmn"+x+"\x00")
		wantPack(t, "abcdefghijklmn", b<<8, "abcdefghijklmn\x00"+x)
		wantUnpack(t, "abcdefghijklmn"+x+"\x00", "abcdefghijklmn", b)
		wantUnpack(t, "abcdefghijklmn\x00"+x, "abcdefghijklmn", b*256)
	}
}

// Where several noughts stand, the first one ends the name, whatever stands behind it.
func TestP9_3BytesBehindANought(t *testing.T) {
	for i := range 14 {
		for j := range 14 {
			e := put(put("abcdefghijklmn", i, 0), j, 0) + "\x02\x01"
			wantUnpack(t, e, letters[:min(i, j)], 258)
		}
	}
	wantUnpack(t, strings.Repeat("\x00x", 8), "", 'x'<<8)
	wantUnpack(t, strings.Repeat("x\x00", 8), "x", 'x')
}

// An entry is full when its name fills all its room: its number is no part of the name.
func TestP9_3FullEntries(t *testing.T) {
	wantUnpack(t, "abcdefghijklmnop", "abcdefghijklmn", 'o'|'p'<<8)
	wantUnpack(t, strings.Repeat("\xff", 16), strings.Repeat("\xff", 14), 65535)
	wantUnpack(t, "abcdefghijklmn\x00\x00", "abcdefghijklmn", 0)
	wantUnpack(t, "abcdefghijklm\x00\x00\x00", "abcdefghijklm", 0)
	wantUnpack(t, noughts(16), "", 0)
}

func TestP9_3OtherLengths(t *testing.T) {
	for n := range 26 {
		if n != 16 {
			wantUnpack(t, letters[:n], "", 0)
			wantUnpack(t, noughts(n), "", 0)
			wantUnpack(t, strings.Repeat("\xff", n), "", 0)
		}
	}
	e := name.Pack("ab", 258)
	wantUnpack(t, e[:15], "", 0)
	wantUnpack(t, e[1:], "", 0)
	wantUnpack(t, e+"\x00", "", 0)
	wantUnpack(t, "\x00"+e, "", 0)
	wantUnpack(t, e+e, "", 0)
	wantUnpack(t, strings.Repeat("水", 16), "", 0)
	for _, n := range []int{256 + 16, 65536 + 16, 1 << 20} {
		wantUnpack(t, strings.Repeat("x", n), "", 0)
	}
}
