package name_test

import (
	"slices"
	"strings"
	"testing"
	"unicode/utf8"

	"cloister/api"
	"cloister/name"
)

// The limits, by hand: the tests hold the package against these.
const (
	maxName = 14
	maxPath = 60
	entry   = 16
)

const letters = "abcdefghijklmnopqrstuvwxyz"

func names(l ...string) []string { return l }

func wantRight(t *testing.T, s string, want bool) {
	t.Helper()
	if got := name.Right(s); got != want {
		t.Errorf("Right(%q): %v", s, got)
	}
}

func wantSplit(t *testing.T, p string, want []string, abs bool) {
	t.Helper()
	if l, a, ok := name.Split(p); !slices.Equal(l, want) || a != abs || !ok {
		t.Errorf("Split(%q): %q, %v, %v, not %q, %v, true", p, l, a, ok, want, abs)
	}
}

func wantNoSplit(t *testing.T, p string) {
	t.Helper()
	if l, a, ok := name.Split(p); len(l) != 0 || a || ok {
		t.Errorf("Split(%q): %q, %v, %v, not none, false, false", p, l, a, ok)
	}
}

// put is s with b at place i instead of what was there.
func put(s string, i int, b byte) string { return s[:i] + string([]byte{b}) + s[i+1:] }

func TestLimits(t *testing.T) {
	if api.MaxName != maxName || api.MaxPath != maxPath || api.Entry != entry {
		t.Error(api.MaxName, api.MaxPath, api.Entry)
	}
}

func TestRuns(t *testing.T) {
	wantSplit(t, "/a//bc/", names("a", "bc"), true)
	wantNoSplit(t, "")
	wantNoSplit(t, "abcdefghijklmno")
	if s, n := name.Unpack(name.Pack("ab", 258)); s != "ab" || n != 258 {
		t.Errorf("Unpack of Pack: %q, %d", s, n)
	}
}

func TestP9_1EveryLength(t *testing.T) {
	for n := range 26 {
		wantRight(t, letters[:n], n >= 1 && n <= 14)
	}
	for _, n := range []int{254, 255, 256, 257, 256 + 14, 65536, 65537, 1 << 20} {
		wantRight(t, strings.Repeat("x", n), false)
	}
}

// Each byte there is, alone, and at each place of a name of each length.
func TestP9_1EveryByteAtEveryPlace(t *testing.T) {
	for b := range 256 {
		right := b != '/' && b != 0
		for n := 1; n <= 14; n++ {
			for i := range n {
				wantRight(t, put(letters[:n], i, byte(b)), right)
			}
		}
		for i := range 15 {
			wantRight(t, put(letters[:15], i, byte(b)), false)
		}
	}
}

func TestP9_1DotsAreNames(t *testing.T) {
	for _, s := range []string{".", "..", "...", ".a", "a.", strings.Repeat(".", 14), " ", "\n", "\\", "-", "*"} {
		wantRight(t, s, true)
	}
	for _, s := range []string{"./", "/.", "../", "/..", "./.", strings.Repeat(".", 15), "/", "//", "\x00", "\x00\x00", "/\x00", "\x00/"} {
		wantRight(t, s, false)
	}
}

// Bytes are counted, and not letters; that they are no UTF-8 is no matter.
func TestP9_1CountsBytes(t *testing.T) {
	for _, q := range []struct {
		s    string
		want bool
	}{
		{strings.Repeat("é", 7), true}, {strings.Repeat("é", 7) + "a", false}, {strings.Repeat("é", 8), false},
		{strings.Repeat("水", 4), true}, {strings.Repeat("水", 4) + "é", true}, {strings.Repeat("水", 5), false}, {strings.Repeat("水", 14), false},
		{strings.Repeat("😀", 3) + "é", true}, {strings.Repeat("😀", 3) + "水", false},
		{"\xff", true}, {"\xc3", true}, {"\x80\x80", true}, {"\xc0\xaf", true}, {"\xc0\x80", true}, {"\xed\xa0\x80", true}, {strings.Repeat("\xff", 14), true},
		{strings.Repeat("\xff", 15), false}, {"\xff/", false}, {"\xc3/", false}, {"\xc3\x00", false}, {"\xe6\xb0/", false},
		{"\u2215", true}, {"\uff0f", true}, {"\u012f", true}, {"\u0100", true}, {string(utf8.RuneError), true},
	} {
		wantRight(t, q.s, q.want)
	}
}

func TestP9_2OneName(t *testing.T) {
	for n := 1; n <= 14; n++ {
		s := letters[:n]
		wantSplit(t, s, names(s), false)
		wantSplit(t, "/"+s, names(s), true)
		wantSplit(t, s+"/", names(s), false)
		wantSplit(t, "/"+s+"/", names(s), true)
	}
	wantNoSplit(t, letters[:15])
	wantNoSplit(t, "/"+letters[:15])
	wantNoSplit(t, letters[:15]+"/")
	wantNoSplit(t, "//"+letters[:15]+"//")
}

// Two and three names with 1 to 4 slashes between, and 0 to 4 ahead and behind.
func TestP9_2SlashesAheadBetweenBehind(t *testing.T) {
	for ahead := range 5 {
		for between := 1; between < 5; between++ {
			for behind := range 5 {
				a, m, z := strings.Repeat("/", ahead), strings.Repeat("/", between), strings.Repeat("/", behind)
				wantSplit(t, a+"ab"+m+"c"+z, names("ab", "c"), ahead > 0)
				wantSplit(t, a+"ab"+m+"c/d"+z, names("ab", "c", "d"), ahead > 0)
				wantSplit(t, a+"a/b"+m+"ab"+z, names("a", "b", "ab"), ahead > 0)
				wantSplit(t, a+"same"+m+"same"+z, names("same", "same"), ahead > 0)
			}
		}
	}
}

func TestP9_2ManyNames(t *testing.T) {
	for n := 1; n <= 30; n++ {
		l := slices.Repeat(names("a"), n)
		wantSplit(t, strings.Repeat("a/", n), l, false)
		wantSplit(t, strings.Repeat("/a", n), l, true)
	}
	wantSplit(t, "a/b/c/d/e/f/g/h/i/j/k/l/m/n/o/p/q/r/s/t/u/v/w/x/y/z", strings.Split(letters, ""), false)
	long := names("abcdefghijklmn", "bcdefghijklmno", "cdefghijklmnop", "defghijklmnopq")
	wantSplit(t, "/"+strings.Join(long, "/"), long, true)
	wantSplit(t, strings.Join(long, "/")+"/", long, false)
}

func TestP9_2SlashesAlone(t *testing.T) {
	for n := 1; n <= 60; n++ {
		wantSplit(t, strings.Repeat("/", n), nil, true)
	}
	wantNoSplit(t, strings.Repeat("/", 61))
}

func TestP9_2DotsAreNames(t *testing.T) {
	wantSplit(t, ".", names("."), false)
	wantSplit(t, "..", names(".."), false)
	wantSplit(t, "/.", names("."), true)
	wantSplit(t, "/..", names(".."), true)
	wantSplit(t, "./../.", names(".", "..", "."), false)
	wantSplit(t, "/a/../b/./c", names("a", "..", "b", ".", "c"), true)
	wantSplit(t, "...//..", names("...", ".."), false)
}

// Paths of right names, of each length about MaxPath: the last name is as long as is needed.
func TestP9_2EveryLength(t *testing.T) {
	long, short := slices.Repeat(names(letters[:14]), 3), slices.Repeat(names("a"), 22)
	for n := 1; n <= 14; n++ {
		last := letters[:n]
		for _, q := range []struct {
			head string
			l    []string
		}{{strings.Join(long, "/") + "/", long}, {strings.Join(short, "/") + "//", short}, {strings.Repeat("/", 45), nil}} {
			l := append(slices.Clone(q.l), last)
			wantSplit(t, q.head+last, l, q.head[0] == '/')
			wantSplit(t, q.head+last+"/", l, q.head[0] == '/')
		}
	}
	for _, p := range []string{strings.Repeat("a/", 30), strings.Repeat("/a", 30), strings.Repeat("abcdefghijkl//", 4) + "abcd", strings.Repeat("/", 59) + "a", "a" + strings.Repeat("/", 59)} {
		if len(p) != 60 {
			t.Fatalf("%q has %d bytes", p, len(p))
		}
		if _, _, ok := name.Split(p); !ok {
			t.Errorf("Split(%q): false", p)
		}
		wantNoSplit(t, p+"/")
		wantNoSplit(t, "/"+p)
		wantNoSplit(t, p+"a")
		wantNoSplit(t, p+p)
	}
	for _, n := range []int{255, 256, 257, 256 + 60, 65536, 65537, 1 << 20} {
		wantNoSplit(t, strings.Repeat("/", n))
		wantNoSplit(t, strings.Repeat("a/", n))
	}
}

// wrong are names between slashes that are not right.
func wrong() []string {
	return []string{letters[:15], letters[:20], "\x00", "a\x00", "\x00a", "a\x00b", letters[:13] + "\x00", strings.Repeat("é", 8), strings.Repeat("\xff", 15)}
}

func TestP9_2WrongNameAtEveryPlace(t *testing.T) {
	for _, w := range wrong() {
		for n := 1; n <= 6; n++ {
			for i := range n {
				l := slices.Repeat(names("abc"), n)
				l[i] = w
				for _, p := range []string{strings.Join(l, "/"), "/" + strings.Join(l, "/"), strings.Join(l, "//") + "//", "//" + strings.Join(l, "///")} {
					if len(p) <= 60 {
						wantNoSplit(t, p)
					}
				}
			}
		}
	}
}

// A name is right or not by its own length alone, whatever stands beside it.
func TestP9_2LengthOfEachName(t *testing.T) {
	for a := 1; a <= 20; a++ {
		for b := 1; b <= 20; b++ {
			x, y := letters[:a], letters[6:6+b]
			if a <= 14 && b <= 14 {
				wantSplit(t, x+"/"+y, names(x, y), false)
			} else {
				wantNoSplit(t, x+"/"+y)
			}
		}
	}
}

func TestP9_2CountsBytes(t *testing.T) {
	wantSplit(t, "é/水/😀", names("é", "水", "😀"), false)
	wantSplit(t, "/\xff//\xc3/", names("\xff", "\xc3"), true)
	wantSplit(t, "\xc3/\xa9", names("\xc3", "\xa9"), false)
	wantSplit(t, "\xc0\xaf", names("\xc0\xaf"), false)
	wantSplit(t, "\u2215a\uff0f", names("\u2215a\uff0f"), false)
	wantSplit(t, strings.Repeat("é", 7)+"/"+strings.Repeat("水", 4), names("ééééééé", "水水水水"), false)
	wantSplit(t, strings.Repeat("水/", 15), slices.Repeat(names("水"), 15), false)
	wantNoSplit(t, strings.Repeat("水/", 15)+"a")
	wantNoSplit(t, strings.Repeat("é/", 31))
	wantNoSplit(t, strings.Repeat("/é", 21))
	wantNoSplit(t, strings.Repeat("水", 5))
}

// Each byte there is, at each place of a path.
func TestP9_2EveryByteAtEveryPlace(t *testing.T) {
	const p = "/ab//c/"
	for b := range 256 {
		x := string([]byte{byte(b)})
		if b == 0 {
			for i := range len(p) {
				wantNoSplit(t, put(p, i, 0))
			}
			continue
		}
		if b == '/' {
			continue
		}
		wantSplit(t, put(p, 0, byte(b)), names(x+"ab", "c"), false)
		wantSplit(t, put(p, 1, byte(b)), names(x+"b", "c"), true)
		wantSplit(t, put(p, 2, byte(b)), names("a"+x, "c"), true)
		wantSplit(t, put(p, 3, byte(b)), names("ab"+x, "c"), true)
		wantSplit(t, put(p, 4, byte(b)), names("ab", x+"c"), true)
		wantSplit(t, put(p, 5, byte(b)), names("ab", x), true)
		wantSplit(t, put(p, 6, byte(b)), names("ab", "c"+x), true)
	}
}

// An answer is the caller's own, its spare room too: a second one is not touched by what is done to the first.
func TestP9_2NewMemory(t *testing.T) {
	for n := 1; n <= 20; n++ {
		p := strings.Repeat("ab/", n)
		a, _, _ := name.Split(p)
		b, _, _ := name.Split(p)
		for i := range a[:cap(a)] {
			a[:cap(a)][i] = "spoilt"
		}
		if !slices.Equal(b, slices.Repeat(names("ab"), n)) || slices.Contains(b[:cap(b)], "spoilt") {
			t.Errorf("Split(%q): %q behind a spoilt one", p, b[:cap(b)])
		}
		wantSplit(t, p, b, false)
	}
}
