package unix_test

import (
	"slices"
	"testing"

	"cloister/api"
	"cloister/store"
	"cloister/unix"
)

// wantRun wants all of what a deed comes to, and that the store and what was handed in are as they were.
func wantRun(t *testing.T, what string, s *store.Store, d api.Deed, want api.Act) {
	t.Helper()
	was, pages := s.Twin(), slices.Clone(d.Pages[:cap(d.Pages)])
	wantAct(t, what, unix.Run(s, d), want)
	wantSame(t, what, s, was)
	if !slices.Equal(d.Pages[:cap(d.Pages)], pages) {
		t.Errorf("%s: the pages that were handed in have changed", what)
	}
}

func TestP18_22RunOfACall(t *testing.T) {
	x := boot(t, 32, 2)
	x.is(2, 0, api.CFork)
	x.is(0, 1, api.CKill, 2)
	x.is(3, 0, api.CFork)
	for _, c := range calls() {
		for p := -1; p < 10; p++ {
			want := unix.Do(x.s, p, c)
			wantRun(t, "a call", x.s, api.Deed{Kind: api.DCall, P: p, Call: c}, want)
			wantRun(t, "a call, and more", x.s, api.Deed{Kind: api.DCall, P: p, Call: c, Text: "x", Pages: []int{1}}, want)
		}
	}
}

func TestP18_22Tick(t *testing.T) {
	s := unix.Boot(8)
	for _, now := range append([]int{0, 1, -1, 77}, far()...) {
		s.Put(clock(), lined("t", now, 8, 9))
		for _, d := range []api.Deed{{Kind: api.DTick}, {Kind: api.DTick, P: 3, Call: call(api.CFork), Text: "x", Pages: []int{1}}} {
			wantRun(t, "a tick", s, d, api.Act{
				Reads: keys(clock()),
				Redo:  []api.Write{put(clock(), lined("t", now+1, 8, 9))},
			})
		}
	}
	wantRun(t, "a first tick", store.New(), api.Deed{Kind: api.DTick}, api.Act{Reads: keys(clock()), Redo: []api.Write{put(clock(), val(1))}})
}

// As much of the text as has room stands behind what waits; the console is written even by none.
func TestP18_22Type(t *testing.T) {
	s := unix.Boot(8)
	for _, waits := range []int{0, 1, 2, 31, 62, 63, 64, 65, 66, 128, 300} {
		for _, n := range []int{0, 1, 2, 3, 32, 33, 62, 63, 64, 65, 66, 200} {
			was, text := ink(waits), ink(n + 5)[5:]
			then := []byte(was)
			for i := 0; i < n && len(then) < maxTyped; i++ {
				then = append(then, text[i])
			}
			s.Put(cons(), lined(was, 3, 4, 5))
			wantRun(t, "some typing", s, api.Deed{Kind: api.DType, Text: text, P: 1, Pages: []int{1}}, api.Act{
				Reads: keys(cons()),
				Redo:  []api.Write{put(cons(), lined(string(then), 3, 4, 5))},
			})
		}
	}
}

// What is typed is any bytes.
func TestP18_22TypedBytes(t *testing.T) {
	for b := range 256 {
		text := raw(b, 0, b)
		wantRun(t, "a byte", store.New(), api.Deed{Kind: api.DType, Text: text}, api.Act{Reads: keys(cons()), Redo: []api.Write{put(cons(), lined(text))}})
	}
}

func TestP18_22Back(t *testing.T) {
	s := unix.Boot(0)
	for _, q := range []struct {
		free, away, free2, away2 int
		pages                    []int
	}{
		{0, 14, 4, 10, []int{2}}, {0, 14, 14, 0, []int{3, 1, 2, 1}}, {1, 14, 1, 14, nil}, {1, 14, 1, 14, []int{0, 4, 63, 64, 65, -1, -63, 99}}, {0, least, least, 0, []int{63}}, {5, 6, 7, 4, []int{1, 0}}, {5, 6, 7, 0, from(0, 64)}, {5, 6, 5, 6, far()},
	} {
		s.Put(pool(), lined("p", q.free, q.away, 7))
		wantRun(t, "pages back", s, api.Deed{Kind: api.DBack, Pages: q.pages, Text: "x"}, api.Act{
			Reads: keys(pool()),
			Redo:  []api.Write{put(pool(), lined("p", q.free2, q.away2, 7))},
		})
	}
}

func TestP18_22OtherKinds(t *testing.T) {
	s := unix.Boot(8)
	for _, kind := range append([]int{0, 5, 6, 255, 257, -1, -2, -4}, far()...) {
		wantRun(t, "no deed", s, api.Deed{Kind: kind}, api.Act{Ret: -1})
		wantRun(t, "no deed", s, api.Deed{Kind: kind, P: 0, Call: call(api.CPid), Text: "x", Pages: []int{1}}, api.Act{Ret: -1})
	}
	for i, kind := range []int{api.DCall, api.DTick, api.DType, api.DBack} {
		if kind != i+1 {
			t.Error(i, kind)
		}
	}
}

// The lines that are typed are read by whoever has the console open, byte by byte, each once; what is written there
// doesn't come back.
func TestP18_22TheConsole(t *testing.T) {
	x := boot(t, 16, 2)
	x.path(0, 0, api.CNode, "/c")
	x.path(0, 0, api.COpen, "/c", hBoth)
	x.path(1, 0, api.COpen, "/c", 0)
	x.is(2, 0, api.CFork)
	x.blocks(1, api.CRead, 0, 0, 4)
	x.is(0, 1, api.CRead, 0, 0, 0)
	x.run(api.Deed{Kind: api.DType, Text: "hello"})
	x.run(api.Deed{Kind: api.DType, Text: "you"})
	x.is(4, 1, api.CRead, 0, 20, 4)
	x.is(3, 0, api.CRead, 1, 20, 3)
	x.is(2, 0, api.CWrite, 0, 20, 2)
	x.is(1, 1, api.CRead, 1, 28, 4)
	x.mem(1, 20, "hell")
	x.mem(0, 20, "oyo")
	x.mem(1, 28, "u\x00")
	x.blocks(0, api.CRead, 1, 0, 1)
	wantHas(t, x.s, cons(), val(2, 31*'o'+'y'))
}

// Who waits for a tick goes on at it.
func TestP18_22TheClockGoesOn(t *testing.T) {
	x := boot(t, 8, 1)
	for now := range 5 {
		x.is(now, 0, api.CUptime)
		x.is(0, 0, api.CUntil, now)
		x.blocks(0, api.CUntil, now+1)
		x.run(api.Deed{Kind: api.DTick})
	}
}
