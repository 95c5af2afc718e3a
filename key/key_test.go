package key_test

import (
	"math"
	"slices"
	"testing"

	"cloister/api"
	"cloister/key"
)

// all is how many objects there are, counted by hand.
const all = 55

func k(kind, n int) api.Key { return api.Key{Kind: kind, N: n} }

func keys(l ...api.Key) []api.Key { return l }

// kinds are the kinds in the row's order, how many there are of each, and where the first stands, all by hand.
func kinds() []struct{ kind, count, first int } {
	return []struct{ kind, count, first int }{
		{api.KClock, 1, 0},
		{api.KPool, 1, 1},
		{api.KProcs, 1, 2},
		{api.KProc, 8, 3},
		{api.KFiles, 1, 11},
		{api.KFile, 12, 12},
		{api.KPipes, 1, 24},
		{api.KPipe, 4, 25},
		{api.KInodes, 1, 29},
		{api.KInode, 16, 30},
		{api.KCons, 1, 46},
		{api.KMem, 8, 47},
	}
}

// row is every object, in the row's order.
func row() []api.Key {
	var l []api.Key
	for _, q := range kinds() {
		for n := range q.count {
			l = append(l, k(q.kind, n))
		}
	}
	return l
}

// far are numbers far from every kind, number and place; some of them are near to one if bits of them are lost.
func far() []int {
	return []int{
		99, 255, 256, 257, 260, 1000, 4096, 1<<16 - 1, 1 << 16, 1<<16 + 1, 1<<31 - 1, 1 << 31, 1<<32 - 1, 1 << 32,
		1<<32 + 1, 1<<32 + 4, 1 << 62, 1<<62 + 1, 1<<62 + 4, math.MaxInt - 1, math.MaxInt,
		-99, -256, -255, -252, -1 << 16, -1<<16 + 1, -1 << 31, -1<<32 + 1, -1 << 32, -1<<32 + 4, -1 << 62, -1<<62 + 4,
		math.MinInt, math.MinInt + 1, math.MinInt + 4,
	}
}

// strangers are keys of which there is no object.
func strangers() []api.Key {
	var l []api.Key
	for _, kind := range append([]int{0, -1, -2, -12, 13, 14, 15, 16}, far()...) {
		for _, n := range []int{0, 1, -1, 7, 8, 15, 54, 55, math.MaxInt, math.MinInt} {
			l = append(l, k(kind, n))
		}
	}
	for _, q := range kinds() {
		for _, n := range append([]int{-1, -2, -q.count, -q.first, q.count, q.count + 1, 2 * q.count, 17, 54, 55, 56}, far()...) {
			if n < 0 || n >= q.count {
				l = append(l, k(q.kind, n))
			}
		}
	}
	return l
}

func wantPlace(t *testing.T, x api.Key, want int) {
	t.Helper()
	if got := key.Place(x); got != want {
		t.Errorf("Place(%v): %d, not %d", x, got, want)
	}
}

func wantAt(t *testing.T, place int, want api.Key, there bool) {
	t.Helper()
	if got, ok := key.At(place); got != want || ok != there {
		t.Errorf("At(%d): %v, %v, not %v, %v", place, got, ok, want, there)
	}
}

// wantSort wants, too, that the list stays as it was.
func wantSort(t *testing.T, l []api.Key, want ...api.Key) {
	t.Helper()
	own := slices.Clone(l)
	if got := key.Sort(l); !slices.Equal(got, want) {
		t.Errorf("Sort(%v): %v, not %v", own, got, want)
	}
	if !slices.Equal(l, own) {
		t.Errorf("Sort(%v): what was handed in is %v", own, l)
	}
}

// wantWithin wants, too, that both lists stay as they were.
func wantWithin(t *testing.T, a, b []api.Key, want bool) {
	t.Helper()
	ownA, ownB := slices.Clone(a), slices.Clone(b)
	if got := key.Within(a, b); got != want {
		t.Errorf("Within(%v, %v): %v, not %v", ownA, ownB, got, want)
	}
	if !slices.Equal(a, ownA) || !slices.Equal(b, ownB) {
		t.Errorf("Within(%v, %v): what was handed in is %v, %v", ownA, ownB, a, b)
	}
}

func TestRuns(t *testing.T) {
	if got := key.All(); got != 55 {
		t.Errorf("All: %d, not 55", got)
	}
	wantPlace(t, k(api.KProc, 2), 5)
	wantPlace(t, k(api.KProc, 8), -1)
	wantAt(t, 3, k(api.KProc, 0), true)
	l := keys(k(api.KProc, 1), k(api.KClock, 0), k(api.KProc, 1), k(api.KProc, 99))
	wantSort(t, l, k(api.KClock, 0), k(api.KProc, 1))
}

func TestP7_1All(t *testing.T) {
	limits := 7 + 2*api.MaxProcs + api.MaxFiles + api.MaxPipes + api.MaxInodes
	if got := key.All(); got != all || got != limits || got != len(row()) {
		t.Errorf("All: %d, not %d, %d, %d", got, all, limits, len(row()))
	}
	if key.Place(k(api.KMem, 99)); key.All() != all {
		t.Error("All hangs on what was asked ahead of it")
	}
}

// Each number from far below 0 to far above the greatest count is asked of each kind, and of those beside them.
func TestP7_1HowManyOfEachKind(t *testing.T) {
	want := map[int]int{}
	for _, q := range kinds() {
		want[q.kind] = q.count
	}
	for kind := -70; kind <= 70; kind++ {
		had := 0
		for n := -300; n <= 300; n++ {
			if key.Place(k(kind, n)) >= 0 {
				had++
			}
		}
		if had != want[kind] {
			t.Errorf("kind %d has %d objects, not %d", kind, had, want[kind])
		}
	}
}

func TestP7_2PlaceAndAtOfEveryObject(t *testing.T) {
	for place, x := range row() {
		wantPlace(t, x, place)
		wantAt(t, place, x, true)
	}
}

func TestP7_2FirstAndLastOfEachKind(t *testing.T) {
	for _, q := range kinds() {
		last := q.count - 1
		wantPlace(t, k(q.kind, 0), q.first)
		wantPlace(t, k(q.kind, last), q.first+last)
		wantPlace(t, k(q.kind, -1), -1)
		wantPlace(t, k(q.kind, q.count), -1)
		wantAt(t, q.first, k(q.kind, 0), true)
		wantAt(t, q.first+last, k(q.kind, last), true)
	}
}

func TestP7_2EndsOfTheRow(t *testing.T) {
	wantAt(t, 0, k(api.KClock, 0), true)
	wantAt(t, key.All()-1, k(api.KMem, api.MaxProcs-1), true)
	wantAt(t, -1, api.Key{}, false)
	wantAt(t, key.All(), api.Key{}, false)
	wantPlace(t, k(api.KClock, 0), 0)
	wantPlace(t, k(api.KMem, api.MaxProcs-1), key.All()-1)
}

func TestP7_2PlaceOfStrangers(t *testing.T) {
	wantPlace(t, api.Key{}, -1)
	for _, x := range strangers() {
		wantPlace(t, x, -1)
	}
}

func TestP7_2AtOfNoPlace(t *testing.T) {
	for _, place := range append([]int{-1, -2, -54, -55, -56, 55, 56, 57, 63, 64, 109, 110, 111}, far()...) {
		wantAt(t, place, api.Key{}, false)
	}
}

// The order of the row is told without places: by kinds, then by numbers.
func TestP7_2RowRises(t *testing.T) {
	for place := 1; place < key.All(); place++ {
		a, _ := key.At(place - 1)
		b, _ := key.At(place)
		if a.Kind > b.Kind || a.Kind == b.Kind && a.N+1 != b.N || a.Kind < b.Kind && b.N != 0 {
			t.Errorf("%v stands ahead of %v", a, b)
		}
	}
}

func TestP7_3SortOfNothing(t *testing.T) {
	wantSort(t, nil)
	wantSort(t, keys())
	wantSort(t, make([]api.Key, 0, 8))
	wantSort(t, make([]api.Key, 3))
	wantSort(t, strangers())
	for _, x := range strangers() {
		wantSort(t, keys(x))
	}
}

func TestP7_3SortOfAll(t *testing.T) {
	back := row()
	slices.Reverse(back)
	for _, l := range [][]api.Key{row(), back, append(row(), back...), append(back, row()...)} {
		wantSort(t, l, row()...)
	}
	for _, x := range row() {
		wantSort(t, keys(x), x)
		wantSort(t, keys(x, x, x), x)
	}
	for i := range row() {
		wantSort(t, append(row()[i:], row()[:i]...), row()...)
	}
	for step := 1; step < all; step++ {
		if step%5 == 0 || step%11 == 0 {
			continue
		}
		var l []api.Key
		for i := range all {
			l = append(l, row()[i*step%all])
		}
		wantSort(t, l, row()...)
	}
}

func TestP7_3SortOfEveryPair(t *testing.T) {
	for i, a := range row() {
		for j, b := range row() {
			switch {
			case i < j:
				wantSort(t, keys(a, b), a, b)
			case i > j:
				wantSort(t, keys(a, b, a), b, a)
			}
		}
	}
}

func TestP7_3SortPassesOverStrangers(t *testing.T) {
	for i, x := range strangers() {
		a, b := row()[i%all], row()[(i+1)%all]
		if key.Place(a) > key.Place(b) {
			a, b = b, a
		}
		wantSort(t, keys(x, b, x, a, b, x), a, b)
	}
	mixed := slices.Concat(strangers(), row(), strangers())
	wantSort(t, mixed, row()...)
}

func TestP7_3SortOfWhatWasSorted(t *testing.T) {
	l := keys(k(api.KMem, 7), k(api.KInode, 15), k(api.KInode, 16), k(api.KClock, 0), k(api.KMem, 7), k(api.KFile, 10), k(api.KFile, 9))
	want := keys(k(api.KClock, 0), k(api.KFile, 9), k(api.KFile, 10), k(api.KInode, 15), k(api.KMem, 7))
	wantSort(t, l, want...)
	wantSort(t, key.Sort(l), want...)
	wantSort(t, key.Sort(key.Sort(l)), want...)
}

// A list that is sorted already is handed in, as one who would save work might hand it out again.
func TestP7_3SortAnswersNewMemory(t *testing.T) {
	mark := k(-5, -5)
	for _, n := range []int{0, 1, 2, 3, 4, 5, all} {
		room := append(row()[:n:n], mark, mark, mark)
		l := room[:n]
		got := key.Sort(l)
		whole := got[:cap(got)]
		for i := range whole {
			whole[i] = k(-6, -6)
		}
		if !slices.Equal(l, row()[:n]) || !slices.Equal(room[n:], keys(mark, mark, mark)) {
			t.Errorf("Sort of %d keys shares memory with what was handed in: %v", n, room)
		}
		if again := key.Sort(l); !slices.Equal(again, row()[:n]) {
			t.Errorf("Sort of %d keys, behind an answer that was spoilt: %v", n, again)
		}
	}
}

// What is handed in may be changed by its owner behind the call, and its spare room is not read.
func TestP7_3SortKeepsNothing(t *testing.T) {
	l := append(make([]api.Key, 0, 4), k(api.KProc, 1), k(api.KClock, 0), k(api.KPool, 0))
	got := key.Sort(l[:2])
	l[0], l[1] = k(api.KMem, 0), k(api.KMem, 1)
	if want := keys(k(api.KClock, 0), k(api.KProc, 1)); !slices.Equal(got, want) {
		t.Errorf("%v, not %v", got, want)
	}
	if want := k(api.KPool, 0); l[2] != want {
		t.Errorf("spare room: %v, not %v", l[2], want)
	}
}

func TestP7_3WithinShares(t *testing.T) {
	a, b, c := k(api.KProc, 1), k(api.KFile, 3), k(api.KMem, 1)
	for _, q := range []struct {
		a, b []api.Key
		want bool
	}{
		{keys(a), keys(a), true},
		{keys(a, b), keys(b, a), true},
		{keys(b, a), keys(a, c, b), true},
		{keys(a, a, a), keys(a), true},
		{keys(a), keys(c, c, a, a), true},
		{keys(a, b), keys(a), false},
		{keys(a, b), keys(b), false},
		{keys(a, b), keys(b, c), false},
		{keys(a, b, c), keys(a, c), false},
		{keys(a, a), keys(b, c), false},
		{keys(a), keys(b), false},
		{keys(a), keys(k(api.KProc, 2)), false},
		{keys(a), keys(k(api.KFile, 1)), false},
		{keys(a), keys(c), false},
	} {
		wantWithin(t, q.a, q.b, q.want)
	}
}

func TestP7_3WithinOfNothing(t *testing.T) {
	for _, empty := range [][]api.Key{nil, {}, make([]api.Key, 0, 4), keys(api.Key{}), strangers()} {
		for _, other := range [][]api.Key{nil, {}, keys(api.Key{}), strangers(), row(), keys(k(api.KClock, 0))} {
			wantWithin(t, empty, other, true)
		}
		wantWithin(t, row(), empty, false)
		for _, x := range row() {
			wantWithin(t, keys(x), empty, false)
		}
	}
}

func TestP7_3WithinOfEveryPair(t *testing.T) {
	for i, a := range row() {
		for j, b := range row() {
			wantWithin(t, keys(a), keys(b), i == j)
			wantWithin(t, keys(a, b), keys(b), i == j)
			wantWithin(t, keys(b), keys(a, b), true)
		}
		rest := slices.Delete(row(), i, i+1)
		wantWithin(t, row(), rest, false)
		wantWithin(t, keys(a), rest, false)
		wantWithin(t, rest, row(), true)
	}
	wantWithin(t, row(), row(), true)
}

func TestP7_3WithinPassesOverStrangers(t *testing.T) {
	a, b := k(api.KInode, 15), k(api.KPipe, 0)
	for _, x := range strangers() {
		wantWithin(t, keys(x), keys(a), true)
		wantWithin(t, keys(x), keys(x), true)
		wantWithin(t, keys(x, a, x), keys(b, a), true)
		wantWithin(t, keys(x, b), keys(a), false)
		wantWithin(t, keys(b, x), keys(x, a), false)
		wantWithin(t, keys(a), keys(x), false)
		wantWithin(t, keys(a, x), keys(x, b, a), true)
	}
}

func TestP7_3WithinLeavesSpareRoom(t *testing.T) {
	a, b := k(api.KProc, 1), k(api.KFile, 3)
	l := keys(a, b)
	wantWithin(t, keys(b), l[:1], false)
	wantWithin(t, l[:1], keys(a), true)
	if !slices.Equal(l, keys(a, b)) {
		t.Errorf("spare room was written: %v", l)
	}
}
