package dir_test

import (
	"slices"
	"strconv"
	"strings"
	"testing"

	"cloister/api"
	"cloister/dir"
	"cloister/store"
)

func TestP11_3FillsUp(t *testing.T) {
	v := at1("")
	var bytes string
	for i := range 8 {
		s := "n" + strconv.Itoa(i)
		wantAdd(t, v, 1, s, i+1, true)
		bytes += entry(s, i+1)
		wantBytes(t, v, 1, bytes)
	}
	if len(bytes) != maxFile {
		t.Errorf("%d bytes", len(bytes))
	}
	for _, s := range names("more", "n0", "n7", "a", strings.Repeat("x", maxName)) {
		wantAdd(t, v, 1, s, 1, false)
	}
	wantBytes(t, v, 1, bytes)
	for i := range 8 {
		wantFind(t, v, 1, "n"+strconv.Itoa(i), i+1)
	}
}

// Each set of free entries of each number of entries: the first free one's place is taken, and the one behind all last.
func TestP11_3EveryGap(t *testing.T) {
	for many := range 9 {
		for gaps := range 1 << many {
			l := make([]string, many)
			for at := range l {
				l[at] = entry("n"+strconv.Itoa(at), (at+1)*(1-gaps>>at%2))
			}
			v := at1(strings.Join(l, ""))
			for i := 0; ; i++ {
				at := slices.IndexFunc(l, func(e string) bool { return numberOf(e) == 0 })
				if at < 0 && len(l) == 8 {
					break
				}
				if at < 0 {
					at = len(l)
					l = append(l, "")
				}
				l[at] = entry("new"+strconv.Itoa(i), 15-i)
				wantAdd(t, v, 1, "new"+strconv.Itoa(i), 15-i, true)
				wantBytes(t, v, 1, strings.Join(l, ""))
			}
			wantAdd(t, v, 1, "more", 1, false)
			wantBytes(t, v, 1, strings.Join(l, ""))
		}
	}
}

// Bytes that are no whole entry are overwritten; those behind a free entry stay.
func TestP11_3Tails(t *testing.T) {
	for many := range 8 {
		for n := range entrySize {
			b, tail := strings.Repeat(entry("x", 4), many), strings.Repeat("t", n)
			v := at1(b + tail)
			wantAdd(t, v, 1, "new", 9, true)
			wantBytes(t, v, 1, b+entry("new", 9))
			v = at1(entry("", 0) + b[:max(0, len(b)-16)] + tail)
			wantAdd(t, v, 1, "new", 9, true)
			wantBytes(t, v, 1, entry("new", 9)+b[:max(0, len(b)-16)]+tail)
			v = at1(strings.Repeat(entry("x", 4), 8) + tail)
			wantAdd(t, v, 1, "new", 9, false)
			wantBytes(t, v, 1, strings.Repeat(entry("x", 4), 8)+tail)
			v = at1(strings.Repeat(entry("x", 4), 7) + entry("x", 0) + tail)
			wantAdd(t, v, 1, "new", 9, true)
			wantBytes(t, v, 1, strings.Repeat(entry("x", 4), 7)+entry("new", 9)+tail)
		}
	}
}

func TestP11_3EveryNumber(t *testing.T) {
	for _, i := range all() {
		v := at1("")
		wantAdd(t, v, 1, "a", i, true)
		wantBytes(t, v, 1, entry("a", i))
		wantFind(t, v, 1, "a", i)
	}
	v := at1(entry("b", 5) + entry("a", 0))
	for i := -1 << 12; i <= 1<<17; i++ {
		if i < 1 || i > 15 {
			wantAdd(t, v, 1, "a", i, false)
		}
	}
	for _, i := range strangers() {
		wantAdd(t, v, 1, "a", i, false)
		wantAdd(t, v, 1, "b", i, false)
	}
	wantBytes(t, v, 1, entry("b", 5)+entry("a", 0))
}

// A name has a byte to MaxName bytes; one of MaxName bytes is kept to its last, and told from those it begins with.
func TestP11_3NamesOfEachLength(t *testing.T) {
	long := "abcdefghijklmn"
	for n := 1; n <= maxName; n++ {
		v := at1("")
		wantAdd(t, v, 1, long[:n], 7, true)
		wantNames(t, v, 1, names(long[:n]))
		for m := 1; m <= maxName; m++ {
			if m == n {
				wantFind(t, v, 1, long[:m], 7)
				wantAdd(t, v, 1, long[:m], 8, false)
				continue
			}
			wantFind(t, v, 1, long[:m], 0)
			wantAdd(t, v, 1, long[:m], 8, true)
			wantRemove(t, v, 1, long[:m], true)
		}
		wantNames(t, v, 1, names(long[:n]))
	}
	v := at1("")
	wantAdd(t, v, 1, long+"o", 7, false)
	wantAdd(t, v, 1, long, 7, true)
	wantFind(t, v, 1, long+"o", 0)
	wantRemove(t, v, 1, long+"o", false)
	wantFind(t, v, 1, long, 7)
}

// A name that is there is refused, with its own number too; one whose entry is free isn't.
func TestP11_3NamesThatAreThere(t *testing.T) {
	b := entry("gap", 0) + entry("a", 3) + entry("old", 16) + entry("b", 15)
	for _, s := range names("a", "b") {
		for _, i := range all() {
			v := at1(b)
			wantAdd(t, v, 1, s, i, false)
			wantBytes(t, v, 1, b)
		}
	}
	for _, s := range names("gap", "old", "A", "a ", "ab") {
		v := at1(b)
		wantAdd(t, v, 1, s, 9, true)
		wantBytes(t, v, 1, entry(s, 9)+b[16:])
		wantAdd(t, v, 1, s, 9, false)
	}
}

// Two names may have one number, and a directory may have itself, or what is no inode.
func TestP11_3AnyInode(t *testing.T) {
	v := at1("")
	for _, s := range names(".", "..", "same", "none") {
		wantAdd(t, v, 1, s, 1+14*len(s)/4, true)
	}
	wantFind(t, v, 1, ".", 4)
	wantFind(t, v, 1, "same", 15)
	wantFind(t, v, 1, "none", 15)
	wantAdd(t, v, 1, "me", 1, true)
	wantFind(t, v, 1, "me", 1)
}

func TestP11_4Remove(t *testing.T) {
	b := entry("a", 3) + entry("b", 15) + "c\x00junk" + strings.Repeat("z", 8) + "\x01\x00" + entry(strings.Repeat("x", maxName), 9)
	for at, s := range names("a", "b", "c", strings.Repeat("x", maxName)) {
		v := at1(b + "tail")
		wantRemove(t, v, 1, s, true)
		then := b[:16*at] + strings.Repeat("\x00", 16) + b[16*at+16:] + "tail"
		wantBytes(t, v, 1, then)
		wantFind(t, v, 1, s, 0)
		wantRemove(t, v, 1, s, false)
		wantBytes(t, v, 1, then)
	}
	v := at1(b)
	for _, s := range names("A", "ab", "d", "c\x00junk", "", "junk", "tail", strings.Repeat("x", maxName-1), strings.Repeat("x", maxName+1)) {
		wantRemove(t, v, 1, s, false)
	}
	wantBytes(t, v, 1, b)
}

// Of several entries of one name the first goes, of those that are there; the next call finds the next.
func TestP11_4SameNameTwice(t *testing.T) {
	v := at1(entry("a", 16) + entry("a", 3) + entry("b", 1) + entry("a", 4) + entry("a", 0) + entry("a", 3))
	for _, n := range []int{3, 4, 3} {
		wantFind(t, v, 1, "a", n)
		wantRemove(t, v, 1, "a", true)
	}
	wantRemove(t, v, 1, "a", false)
	gone := strings.Repeat("\x00", 16)
	wantBytes(t, v, 1, entry("a", 16)+gone+entry("b", 1)+gone+entry("a", 0)+gone)
}

func TestP11_4AddedAgain(t *testing.T) {
	v := at1("")
	for i, s := range names("a", "b", "c", "d", "e", "f", "g", "h") {
		wantAdd(t, v, 1, s, i+1, true)
	}
	for _, s := range names("f", "b", "h") {
		wantRemove(t, v, 1, s, true)
	}
	for _, s := range names("x", "y", "z") {
		wantAdd(t, v, 1, s, 15, true)
	}
	wantAdd(t, v, 1, "more", 15, false)
	wantNames(t, v, 1, names("a", "x", "c", "d", "e", "y", "g", "z"))
}

func TestP11_5Names(t *testing.T) {
	v := at1("")
	wantNames(t, v, 1, nil)
	for i, s := range names("zeta", "a", "m", "..", ".", "Z", "aa") {
		wantAdd(t, v, 1, s, 15-i, true)
	}
	wantNames(t, v, 1, names("zeta", "a", "m", "..", ".", "Z", "aa"))
	wantRemove(t, v, 1, "m", true)
	wantNames(t, v, 1, names("zeta", "a", "..", ".", "Z", "aa"))
	wantNames(t, at1(entry("a", 1)+entry("", 2)+entry("a", 1)+entry("x", 0)+entry("x/y", 3)), 1, names("a", "", "a", "x/y"))
}

// The list that Names answers is the caller's own.
func TestP11_5NewMemory(t *testing.T) {
	v := at1(entry("a", 1) + entry("b", 2))
	l, m := dir.Names(v, 1), dir.Names(v, 1)
	clear(l[:cap(l)])
	wantNames(t, v, 1, names("a", "b"))
	if !slices.Equal(m, names("a", "b")) {
		t.Errorf("the other list is %q", m)
	}
}

func TestP11_5Bare(t *testing.T) {
	for _, q := range []struct {
		bytes string
		want  bool
	}{
		{"", true}, {"no entry", true}, {entry(".", 1), true}, {entry("..", 1), true}, {entry(".", 1) + entry("..", 1), true}, {entry("..", 15) + entry(".", 15), true},
		{entry(".", 1) + entry(".", 2) + entry(".", 3), true}, {entry("a", 0), true}, {entry("a", 16), true}, {entry(".", 1) + entry("..", 1) + entry("a", 0), true},
		{entry(".", 1) + entry("..", 1) + entry("a", 7)[:15], true}, {strings.Repeat(entry(".", 1), 8) + entry("a", 7), true},
		{entry("a", 1), false}, {entry(".", 1) + entry("..", 1) + entry("a", 1), false}, {entry("a", 1) + entry(".", 1) + entry("..", 1), false}, {entry("...", 1), false},
		{entry("", 1), false}, {entry("./", 1), false}, {entry(".a", 1), false}, {entry("..a", 1), false}, {entry(". ", 1), false}, {entry("a.", 1), false}, {entry("/", 1), false},
		{strings.Repeat(entry(".", 1), 7) + entry("a", 7), false}, {".\x00a" + strings.Repeat("z", 11) + "\x01\x00", true},
	} {
		wantBare(t, at1(q.bytes), 1, q.want)
		if t.Failed() {
			t.Fatalf("of %q", q.bytes)
		}
	}
	for _, d := range strangers() {
		wantBare(t, store.Look(full()), d, true)
	}
	wantBare(t, store.Look(one(2, val(api.TFile, entry("a", 1)))), 2, true)
	wantBare(t, store.Look(store.New()), 2, true)
}

func TestP11_5BareAgain(t *testing.T) {
	v := at1("")
	for _, s := range names(".", "..") {
		wantAdd(t, v, 1, s, 1, true)
		wantBare(t, v, 1, true)
	}
	wantAdd(t, v, 1, "a", 2, true)
	wantBare(t, v, 1, false)
	wantRemove(t, v, 1, "a", true)
	wantBare(t, v, 1, true)
}
