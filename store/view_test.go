package store_test

import (
	"slices"
	"testing"

	"cloister/api"
	"cloister/key"
	"cloister/store"
)

func TestP8_2NewView(t *testing.T) {
	for _, s := range []*store.Store{store.New(), full(), full().Twin()} {
		wantView(t, store.Look(s), nil, nil, nil)
		used := store.Look(s)
		used.Get(first())
		used.Put(last(), val(9))
		wantView(t, store.Look(s), nil, nil, nil)
	}
}

func TestP8_2OnlyRead(t *testing.T) {
	for place, x := range row() {
		v := store.Look(full())
		wantGet(t, v, x, val(place+1))
		wantView(t, v, keys(x), keys(x), nil)
		wantGet(t, v, x, val(place+1))
		wantView(t, v, keys(x), keys(x), nil)
		z := store.Look(store.New())
		wantGet(t, z, x, zero)
		wantView(t, z, keys(x), keys(x), nil)
	}
}

func TestP8_2OnlyWritten(t *testing.T) {
	for _, x := range row() {
		s := full()
		v := store.Look(s)
		v.Put(x, val(70))
		wantView(t, v, nil, keys(x), writes(write(x, val(70))))
		wantFull(t, "the store behind a view's Put", s)
	}
}

func TestP8_2ReadAndThenWritten(t *testing.T) {
	for place, x := range row() {
		v := store.Look(full())
		wantGet(t, v, x, val(place+1))
		v.Put(x, val(70))
		wantView(t, v, keys(x), keys(x), writes(write(x, val(70))))
		wantGet(t, v, x, val(70))
		wantView(t, v, keys(x), keys(x), writes(write(x, val(70))))
	}
}

func TestP8_2WrittenAndThenRead(t *testing.T) {
	for _, x := range row() {
		s := full()
		v := store.Look(s)
		v.Put(x, val(70))
		wantGet(t, v, x, val(70))
		wantView(t, v, keys(x), keys(x), writes(write(x, val(70))))
		wantFull(t, "the store", s)
	}
}

func TestP8_2WrittenMoreThanOnce(t *testing.T) {
	for _, x := range row() {
		v := store.Look(full())
		for n := range 4 {
			v.Put(x, val(70+n))
			wantView(t, v, nil, keys(x), writes(write(x, val(70+n))))
		}
		wantGet(t, v, x, val(73))
		v.Put(x, val(70))
		wantGet(t, v, x, val(70))
		wantView(t, v, keys(x), keys(x), writes(write(x, val(70))))
	}
}

// Zero is a value as any other: it was written, and is what is got.
func TestP8_2WrittenWithZero(t *testing.T) {
	for _, x := range row() {
		v := store.Look(full())
		v.Put(x, zero)
		wantView(t, v, nil, keys(x), writes(write(x, zero)))
		wantGet(t, v, x, zero)
		v.Put(x, val(5))
		v.Put(x, zero)
		wantGet(t, v, x, zero)
		wantView(t, v, keys(x), keys(x), writes(write(x, zero)))
		z := store.Look(store.New())
		z.Put(x, zero)
		wantView(t, z, nil, keys(x), writes(write(x, zero)))
	}
}

func TestP8_2WrittenWithWhatTheStoreHas(t *testing.T) {
	for place, x := range row() {
		s := full()
		v := store.Look(s)
		v.Put(x, s.Get(x))
		wantView(t, v, nil, keys(x), writes(write(x, val(place+1))))
		s.Put(x, val(90))
		wantGet(t, v, x, val(place+1))
		wantView(t, v, keys(x), keys(x), writes(write(x, val(place+1))))
	}
}

// The store goes on while the view is there: what wasn't written through the view is got as it is now, even if it was
// read ahead of that.
func TestP8_2WhatTheStoreHasNow(t *testing.T) {
	for place, x := range row() {
		s := full()
		v := store.Look(s)
		s.Put(x, val(60))
		wantView(t, v, nil, nil, nil)
		wantGet(t, v, x, val(60))
		s.Put(x, zero)
		wantGet(t, v, x, zero)
		s.Put(x, val(place+1))
		wantGet(t, v, x, val(place+1))
		wantView(t, v, keys(x), keys(x), nil)
		v.Put(x, val(61))
		s.Put(x, val(62))
		wantGet(t, v, x, val(61))
		wantView(t, v, keys(x), keys(x), writes(write(x, val(61))))
		if got := s.Get(x); got != val(62) {
			t.Errorf("the store's %v is %v", x, got)
		}
	}
}

func TestP8_2SeveralObjects(t *testing.T) {
	s := full()
	v := store.Look(s)
	clock, proc, file, mem := first(), k(api.KProc, 3), k(api.KFile, 11), last()
	wantGet(t, v, mem, val(55))
	v.Put(file, val(71))
	wantView(t, v, keys(mem), keys(file, mem), writes(write(file, val(71))))
	wantGet(t, v, proc, val(7))
	v.Put(clock, val(72))
	wantView(t, v, keys(proc, mem), keys(clock, proc, file, mem), writes(write(clock, val(72)), write(file, val(71))))
	v.Put(mem, val(73))
	wantGet(t, v, file, val(71))
	v.Put(clock, val(74))
	wantGet(t, v, mem, val(73))
	wantGet(t, v, proc, val(7))
	wantView(t, v, keys(proc, file, mem), keys(clock, proc, file, mem),
		writes(write(clock, val(74)), write(file, val(71)), write(mem, val(73))))
	wantFull(t, "the store", s)
}

// Keys of one number and several kinds, and of one kind and several numbers, are told apart.
func TestP8_2NeighboursAreNotTouched(t *testing.T) {
	for at, x := range row() {
		v := store.Look(full())
		v.Put(x, val(80))
		for place, y := range row() {
			if place != at {
				wantGet(t, v, y, val(place+1))
			}
		}
		wantGet(t, v, x, val(80))
	}
}

func TestP8_2ValuesAreCopied(t *testing.T) {
	v := store.Look(full())
	mine := val(70)
	v.Put(first(), mine)
	mine.N[3], mine.S = 99, "mine"
	got := v.Get(first())
	got.N[3], got.S = 98, "got"
	wantGet(t, v, first(), val(70))
	wantView(t, v, keys(first()), keys(first()), writes(write(first(), val(70))))
}

// Strangers are got and put in a view through which nothing went, and in one that has read and written.
func TestP8_2Strangers(t *testing.T) {
	s := full()
	v, used := store.Look(s), store.Look(s)
	used.Get(first())
	used.Put(last(), val(70))
	for _, x := range strangers() {
		for _, w := range []*store.View{v, used} {
			wantGet(t, w, x, zero)
			w.Put(x, val(71))
			wantGet(t, w, x, zero)
			w.Put(x, zero)
		}
		wantView(t, v, nil, nil, nil)
		wantView(t, used, keys(first()), keys(first(), last()), writes(write(last(), val(70))))
		if s.Get(x) != zero {
			t.Errorf("Get(%v) is not zero", x)
		}
	}
	wantFull(t, "the store", s)
}

// firsts tells the first n of order, as they stand in the row.
func firsts(order []api.Key, n int) []api.Key {
	var l []api.Key
	for _, x := range row() {
		if slices.Contains(order[:n], x) {
			l = append(l, x)
		}
	}
	return l
}

func TestP8_3AllReadInTheRowsOrder(t *testing.T) {
	for _, order := range [][]api.Key{row(), backwards(), mixed(7), mixed(23), mixed(54)} {
		v := store.Look(full())
		for i, x := range order {
			v.Get(x)
			l := firsts(order, i+1)
			wantView(t, v, l, l, nil)
		}
		wantView(t, v, row(), row(), nil)
	}
}

func TestP8_3AllWrittenInTheRowsOrder(t *testing.T) {
	for _, order := range [][]api.Key{row(), backwards(), mixed(7), mixed(23), mixed(54)} {
		s := store.New()
		v := store.Look(s)
		for i, x := range order {
			v.Put(x, val(slices.Index(row(), x)+1))
			l := firsts(order, i+1)
			wantView(t, v, nil, l, redoOf(l))
		}
		wantView(t, v, nil, row(), redoOf(row()))
		wantStore(t, "the store", s, func(int) api.Value { return zero })
	}
}

// redoOf is the writes of these, each with what full has there.
func redoOf(l []api.Key) []api.Write {
	var redo []api.Write
	for _, x := range l {
		redo = append(redo, write(x, val(slices.Index(row(), x)+1)))
	}
	return redo
}

func TestP8_3AllReadAndWritten(t *testing.T) {
	v := store.Look(store.New())
	for i, x := range mixed(13) {
		v.Put(x, val(99))
		v.Get(mixed(17)[i])
	}
	for _, x := range backwards() {
		v.Put(x, val(slices.Index(row(), x)+1))
	}
	wantView(t, v, row(), row(), redoOf(row()))
}

// Half of the row is read, another half is written, and the halves have a quarter in common.
func TestP8_3ReadsAndWritesApart(t *testing.T) {
	v := store.Look(full())
	var reads, foot, written []api.Key
	for place, x := range row() {
		if place%4 < 2 {
			reads = append(reads, x)
		}
		if place%4 == 1 || place%4 == 2 {
			written = append(written, x)
		}
		if place%4 < 3 {
			foot = append(foot, x)
		}
	}
	for _, x := range mixed(29) {
		if slices.Contains(written, x) {
			v.Put(x, val(slices.Index(row(), x)+1))
		}
		if slices.Contains(reads, x) {
			v.Get(x)
		}
	}
	wantView(t, v, reads, foot, redoOf(written))
}

func TestP8_3OrderIsThePlaces(t *testing.T) {
	v := store.Look(full())
	for _, x := range mixed(31) {
		v.Get(x)
	}
	for place, x := range v.Foot() {
		if key.Place(x) != place {
			t.Errorf("%v stands at %d, not at %d", x, place, key.Place(x))
		}
	}
}

func spoilKeys(l []api.Key) {
	for i := range l[:cap(l)] {
		l[:cap(l)][i] = k(-6, -6)
	}
}

func spoilWrites(l []api.Write) {
	for i := range l[:cap(l)] {
		l[:cap(l)][i] = write(k(-6, -6), val(66))
	}
}

// What was answered is spoilt, with its spare room: neither later answers nor the other answers have changed.
func TestP8_3AnswersAreNewMemory(t *testing.T) {
	for _, n := range []int{0, 1, 2, 3, 4, 5, 8, all} {
		s := full()
		v := store.Look(s)
		for _, x := range row()[:n] {
			v.Get(x)
			v.Put(x, s.Get(x))
		}
		reads, foot, redo := v.Reads(), v.Foot(), v.Redo()
		spoilKeys(reads)
		if !slices.Equal(foot, row()[:n]) || !slices.Equal(redo, redoOf(row()[:n])) {
			t.Errorf("%d: Foot or Redo shares memory with Reads", n)
		}
		spoilKeys(foot)
		spoilWrites(redo)
		wantView(t, v, row()[:n], row()[:n], redoOf(row()[:n]))
		for place, x := range row()[:n] {
			wantGet(t, v, x, val(place+1))
		}
		wantFull(t, "the store", s)
	}
}

// An answer stays as it was, whatever is read and written behind it.
func TestP8_3AnswersStay(t *testing.T) {
	v := store.Look(full())
	v.Get(last())
	v.Put(last(), val(70))
	reads, foot, redo := v.Reads(), v.Foot(), v.Redo()
	for _, x := range row() {
		v.Get(x)
		v.Put(x, val(71))
	}
	if !slices.Equal(reads, keys(last())) || !slices.Equal(foot, keys(last())) || !slices.Equal(redo, writes(write(last(), val(70)))) {
		t.Errorf("%v, %v, %v", reads, foot, redo)
	}
}
