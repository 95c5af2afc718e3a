package dir_test

import (
	"slices"
	"strings"
	"testing"

	"cloister/api"
	"cloister/dir"
	"cloister/store"
)

// What a directory of some bytes must be is told here byte by byte, without the packages that dir stands on.

// entry is an entry of a name of MaxName bytes at most.
func entry(s string, n int) string {
	return s + strings.Repeat("\x00", maxName-len(s)) + string([]byte{byte(n % 256), byte(n / 256)})
}

// cut is the whole entries that begin ahead of MaxFile.
func cut(b string) []string {
	var l []string
	for at := 0; at < maxFile && at+entrySize <= len(b); at += entrySize {
		l = append(l, b[at:at+entrySize])
	}
	return l
}

func nameOf(e string) string {
	s, _, _ := strings.Cut(e[:maxName], "\x00")
	return s
}

func numberOf(e string) int { return int(e[maxName]) + 256*int(e[maxName+1]) }

func isThere(e string) bool { return numberOf(e) > 0 && numberOf(e) < maxInodes }

func right(s string) bool { return s != "" && len(s) <= maxName && !strings.ContainsAny(s, "/\x00") }

// where is the place of the first entry that is there and has the name s, or -1.
func where(b, s string) int {
	for at, e := range cut(b) {
		if right(s) && isThere(e) && nameOf(e) == s {
			return at
		}
	}
	return -1
}

func found(b, s string) int {
	if at := where(b, s); at >= 0 {
		return numberOf(cut(b)[at])
	}
	return 0
}

// added is what Add must leave and answer.
func added(b, s string, i int) (string, bool) {
	if !right(s) || i < 1 || i > 15 || where(b, s) >= 0 {
		return b, false
	}
	for at := 0; at+entrySize <= maxFile; at += entrySize {
		if at+entrySize > len(b) {
			return b[:at] + entry(s, i), true
		}
		if !isThere(b[at : at+entrySize]) {
			return b[:at] + entry(s, i) + b[at+entrySize:], true
		}
	}
	return b, false
}

// removed is what Remove must leave and answer.
func removed(b, s string) (string, bool) {
	at := where(b, s)
	if at < 0 {
		return b, false
	}
	return b[:at*entrySize] + strings.Repeat("\x00", entrySize) + b[(at+1)*entrySize:], true
}

func listed(b string) []string {
	var l []string
	for _, e := range cut(b) {
		if isThere(e) {
			l = append(l, nameOf(e))
		}
	}
	return l
}

func bare(b string) bool {
	return !slices.ContainsFunc(listed(b), func(s string) bool { return s != "." && s != ".." })
}

// wantAsTold does all calls with these names and numbers on a directory of these bytes.
func wantAsTold(t *testing.T, b string, l []string, numbers []int) {
	t.Helper()
	v := at1(b)
	if !dir.Is(v, 1) {
		t.Errorf("%q: no directory", b)
	}
	wantNames(t, v, 1, listed(b))
	wantBare(t, v, 1, bare(b))
	for _, s := range l {
		wantFind(t, v, 1, s, found(b, s))
		then, ok := removed(b, s)
		w := at1(b)
		wantRemove(t, w, 1, s, ok)
		wantBytes(t, w, 1, then)
		for _, i := range numbers {
			then, ok := added(b, s, i)
			w := at1(b)
			wantAdd(t, w, 1, s, i, ok)
			wantBytes(t, w, 1, then)
		}
	}
	wantBytes(t, v, 1, b)
	if t.Failed() {
		t.Fatalf("of the bytes %q", b)
	}
}

// Each telling by hand, of a directory as it was written and as it may never be.
func TestTellings(t *testing.T) {
	b := entry("a", 3) + entry("b", 0) + entry("c/", 2) + "tail"
	if len(b) != 52 || found(b, "a") != 3 || found(b, "b") != 0 || found(b, "c/") != 0 || !slices.Equal(listed(b), []string{"a", "c/"}) || bare(b) || !bare("tail") {
		t.Errorf("of %q: %d, %q", b, found(b, "a"), listed(b))
	}
	for _, q := range []struct {
		s    string
		i    int
		want string
	}{
		{"d", 15, entry("a", 3) + entry("d", 15) + entry("c/", 2) + "tail"}, {"b", 1, entry("a", 3) + entry("b", 1) + entry("c/", 2) + "tail"},
		{"a", 1, b}, {"d", 0, b}, {"d", 16, b}, {"c/", 1, b}, {"", 1, b},
	} {
		if got, ok := added(b, q.s, q.i); got != q.want || ok != (q.want != b) {
			t.Errorf("%q, %d: %q", q.s, q.i, got)
		}
	}
	if got, ok := added(entry("a", 3)+"tail", "x", 9); got != entry("a", 3)+entry("x", 9) || !ok {
		t.Errorf("over a tail: %q", got)
	}
	if got, ok := removed(b, "a"); got != strings.Repeat("\x00", 16)+b[16:] || !ok {
		t.Errorf("without a: %q", got)
	}
}

// kinds of entries: there and free ones, of names that are right and of some that aren't, and names with more behind.
func kinds() []string {
	return []string{
		entry("a", 1), entry("a", 15), entry("b", 7), entry("", 0), entry("a", 0), entry("b", 16), entry("b", 257), entry("", 4), entry("x/y", 2), entry(".", 3), entry("..", 5),
		"a\x00behind nought\x02\x00", "fourteen bytes\x08\x00", "\x00a more behind\x09\x00", strings.Repeat("\xff", 16), "/\xff\xfe bytes  \x00 \x01\x00",
	}
}

// some are names that kinds have, and some that they haven't.
func some() []string {
	return names("a", "b", "c", ".", "..", "", "x/y", "fourteen bytes", "fourteen bytes!", "a\x00behind nought")
}

// All rows of up to three kinds of entries, with bytes behind them or none, at the beginning and about MaxFile.
func TestAllShortRowsOfEntries(t *testing.T) {
	k := kinds()
	many := len(k)
	for n := range 4 {
		rows := 1
		for range n {
			rows *= many
		}
		for code := range rows {
			var b string
			for rest, i := code, 0; i < n; rest, i = rest/many, i+1 {
				b += k[rest%many]
			}
			tail := strings.Repeat("a\x00", 8)[:code%16]
			wantAsTold(t, b+tail, some(), []int{0, 1, 16})
			wantAsTold(t, strings.Repeat(entry("x", 6), 8-n)+b+tail, some(), []int{15})
			wantAsTold(t, strings.Repeat(entry("x", 6), 7-n)+b+tail, some(), []int{15})
			wantAsTold(t, strings.Repeat(entry("x", 6), 9-n)+b+tail, some(), []int{15})
		}
	}
}

// Bytes by a sum that goes round, of all lengths about so many entries; most of the numbers are near those there are.
func TestAnyBytes(t *testing.T) {
	sum := uint32(1)
	next := func() byte {
		sum = sum*1664525 + 1013904223
		return byte(sum >> 24)
	}
	for n := range 300 {
		for range 20 {
			b := make([]byte, n)
			for i := range b {
				switch i % entrySize {
				case maxName:
					b[i] = next() % 20
				case maxName + 1:
					b[i] = next() / 200
				default:
					b[i] = []byte("ab\x00\x00./")[next()%6]
				}
			}
			l := names("a", "b", "c", "ab", ".", "..")
			for _, e := range cut(string(b)) {
				l = append(l, nameOf(e))
			}
			wantAsTold(t, string(b), l, []int{1, 15, 16})
		}
	}
}

// What stands at MaxFile or behind is no entry, and stays as it is.
func TestLongerThanMaxFile(t *testing.T) {
	for _, n := range []int{1, 15, 16, 17, 128, 200, 1 << 16} {
		behind := strings.Repeat(entry("far", 3), n/entrySize+1)[:n]
		for _, b := range []string{strings.Repeat(entry("x", 6), 8), strings.Repeat(entry("x", 0), 8), strings.Repeat(entry("x", 6), 7) + entry("last", 0), entry("far", 9) + strings.Repeat(entry("y", 6), 7)} {
			wantAsTold(t, b+behind, names("x", "y", "far", "last", "new"), []int{0, 1, 15, 16})
		}
	}
}

// Directories of the same bytes under each number of an inode.
func TestEveryInode(t *testing.T) {
	b := entry("a", 3) + entry("", 0) + entry("b", 15)
	for _, d := range all() {
		v := store.Look(one(d, val(api.TDir, b)))
		wantFind(t, v, d, "a", 3)
		wantFind(t, v, d, "b", 15)
		wantAdd(t, v, d, "c", d, true)
		wantFind(t, v, d, "c", d)
		wantRemove(t, v, d, "a", true)
		wantNames(t, v, d, names("c", "b"))
		wantBytes(t, v, d, entry("", 0)+entry("c", d)+entry("b", 15))
		for _, k := range row() {
			if k != object(d) && v.Get(k) != (api.Value{}) {
				t.Errorf("directory %d: %v has changed", d, k)
			}
		}
	}
}
