package name_test

import (
	"slices"
	"strings"
	"testing"

	"cloister/name"
)

// All numbers of two bytes, with a name of each length.
func TestP9_4WhatIsPackedIsUnpacked(t *testing.T) {
	for n := range 65536 {
		s := letters[n%12 : n%12+n%14+1]
		wantUnpack(t, name.Pack(s, n), s, n)
		wantUnpack(t, name.Pack(s, n-65536), s, n)
		wantUnpack(t, name.Pack(s, n+65536), s, n)
	}
}

// Right names of all bytes that a name may have.
func TestP9_4AnyRightNameIsUnpacked(t *testing.T) {
	seen := 0
	for start := range 256 {
		for n := 1; n <= 14; n++ {
			b := make([]byte, n)
			for i := range b {
				b[i] = byte(start + 37*i)
			}
			s := string(b)
			if name.Right(s) {
				seen++
				wantUnpack(t, name.Pack(s, start), s, start)
				wantSplit(t, "/"+s+"//"+s, names(s, s), true)
			}
		}
	}
	if seen < 3000 {
		t.Errorf("%d names", seen)
	}
}

// An entry without bytes behind its first nought is packed again from what it was unpacked to.
func TestP9_4UnpackedIsPackedAgain(t *testing.T) {
	for n := range 15 {
		for _, q := range numbers() {
			e := letters[:n] + noughts(14-n) + q.bytes
			s, i := name.Unpack(e)
			wantPack(t, s, i, e)
		}
	}
}

// joined puts names together by as many slashes as counts tells, from its place at on and round.
func joined(l []string, counts []int, at int) string {
	p := ""
	for i, s := range l {
		if i > 0 {
			p += strings.Repeat("/", counts[(at+i)%len(counts)])
		}
		p += s
	}
	return p
}

func TestP9_4JoinedIsSplitAgain(t *testing.T) {
	counts := []int{1, 2, 1, 5, 3, 1, 1, 9, 2}
	done := 0
	for many := 1; many <= 30; many++ {
		for size := 1; size <= 14; size++ {
			var l []string
			for i := range many {
				l = append(l, letters[i%12:i%12+i%size+1])
			}
			for at := range counts {
				p := joined(l, counts, at)
				for _, ends := range [][2]string{{"", ""}, {"/", ""}, {"", "/"}, {"//", "///"}} {
					q := ends[0] + p + ends[1]
					if len(q) > 60 {
						wantNoSplit(t, q)
						continue
					}
					done++
					wantSplit(t, q, l, ends[0] != "")
				}
			}
		}
	}
	if done < 1000 {
		t.Errorf("%d paths", done)
	}
}

// A path that was split is, put together by single slashes, split into the same.
func TestP9_4SplitTwice(t *testing.T) {
	for _, p := range []string{"a", "/a", "a//b", "//a/.././b//", "é//\xff/", strings.Repeat("//ab", 15), "/abcdefghijklmn/abcdefghijklmn/abcdefghijklmn/abcdefghijklmn"} {
		l, abs, ok := name.Split(p)
		if !ok {
			t.Fatalf("Split(%q): false", p)
		}
		if abs {
			wantSplit(t, "/"+strings.Join(l, "/"), l, true)
		} else {
			wantSplit(t, strings.Join(l, "/"), l, false)
		}
	}
}

// right tells what a right name is in another way: by taking away the bytes that it must not have.
func right(s string) bool {
	kept := strings.ReplaceAll(strings.ReplaceAll(s, "/", ""), "\x00", "")
	return s != "" && kept == s && len(s) < 15
}

// split tells what a path's names are in another way: by single slashes at first, then without what is empty.
func split(p string) ([]string, bool, bool) {
	l := slices.DeleteFunc(strings.Split(p, "/"), func(s string) bool { return s == "" })
	if p == "" || len(p) >= 61 || slices.ContainsFunc(l, func(s string) bool { return !right(s) }) {
		return nil, false, false
	}
	return l, strings.HasPrefix(p, "/"), true
}

// texts hands f each text of n of these bytes.
func texts(of string, n int, f func(string)) {
	if n == 0 {
		f("")
		return
	}
	texts(of, n-1, func(s string) {
		for i := range len(of) {
			f(s + of[i:i+1])
		}
	})
}

// wantAll holds Right and Split of p against the other way to tell them.
func wantAll(t *testing.T, p string) {
	t.Helper()
	wantRight(t, p, right(p))
	if l, abs, ok := split(p); ok {
		wantSplit(t, p, l, abs)
	} else {
		wantNoSplit(t, p)
	}
}

func TestAllShortTexts(t *testing.T) {
	for n := range 8 {
		texts("a/\x00.\xc3", n, func(s string) { wantAll(t, s) })
	}
	for n := range 14 {
		texts("b/", n, func(s string) { wantAll(t, s) })
	}
}

// The same beside a name that is as long as may be, or nearly: what is short alone is wrong there.
func TestAllShortTextsBesideALongName(t *testing.T) {
	for n := range 6 {
		texts("a/\x00\xc3", n, func(s string) {
			for size := 11; size <= 15; size++ {
				wantAll(t, letters[:size]+s)
				wantAll(t, s+letters[:size])
				wantAll(t, strings.Repeat("/", 58-size-n+3)+letters[:size]+s)
			}
		})
	}
}

// All short texts as names of entries, with some numbers.
func TestAllShortTextsPacked(t *testing.T) {
	for n := range 6 {
		texts("a/\x00\xff", n, func(s string) {
			ahead, _, _ := strings.Cut(s, "\x00")
			for _, q := range numbers() {
				e := s + noughts(14-n) + q.bytes
				wantPack(t, s, q.n, e)
				wantUnpack(t, e, ahead, q.back)
			}
		})
	}
}
