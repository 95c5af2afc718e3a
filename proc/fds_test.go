package proc_test

import (
	"math"
	"testing"

	"cloister/api"
	"cloister/store"
)

// at is where a descriptor stands among a process's numbers.
func at(fd int) int { return 8 + fd }

// one is a store where all objects have something, and p alone is used and has no descriptors; every other object of
// a process has file 0 at all of them.
func one(p int) *store.Store {
	s := full(1 << p)
	for _, k := range all() {
		for fd := range maxFd {
			n := 1
			if k == p {
				n = 0
			}
			set(s, object(k), at(fd), n)
		}
	}
	return s
}

// Each descriptor says any file; the others of the process, and those of others, say what they said.
func TestP15_5EachDescriptor(t *testing.T) {
	for _, p := range all() {
		for fd := range maxFd {
			for f := range maxFiles {
				s := one(p)
				was := s.Get(object(p))
				v := store.Look(s)
				wantSetFd(t, v, p, fd, f, true)
				was.N[8+fd] = f + 1
				wantRedo(t, v, put(object(p), was))
				for other := range maxFd {
					if other == fd {
						wantFd(t, v, p, other, f)
					} else {
						wantFd(t, v, p, other, -1)
					}
				}
			}
		}
	}
}

// Whatever a descriptor said, it is set; below 0 is none, whichever number it is.
func TestP15_5SetToNone(t *testing.T) {
	for fd := range maxFd {
		for _, was := range append([]int{0, 1, 12, 13, -1}, far()...) {
			for _, f := range []int{-1, -2, -12, -13, -1 << 31, -1 << 32, math.MinInt, math.MinInt + 1} {
				s := one(4)
				set(s, object(4), at(fd), was)
				v, then := store.Look(s), s.Get(object(4))
				wantSetFd(t, v, 4, fd, f, true)
				then.N[8+fd] = 0
				wantRedo(t, v, put(object(4), then))
				wantFd(t, v, 4, fd, -1)
				wantSetFd(t, v, 4, fd, 11, true)
				then.N[8+fd] = 12
				wantRedo(t, v, put(object(4), then))
				wantFd(t, v, 4, fd, 11)
			}
		}
	}
}

// A file from MaxFiles on is refused, and what the descriptor said stays.
func TestP15_5NoSuchFile(t *testing.T) {
	for fd := range maxFd {
		for _, f := range []int{12, 13, 16, 255, 256, 1 << 31, 1 << 32, 1<<32 + 1, 1 << 62, math.MaxInt - 1, math.MaxInt} {
			s := one(2)
			set(s, object(2), at(fd), 8)
			v := store.Look(s)
			wantSetFd(t, v, 2, fd, f, false)
			wantRedo(t, v)
			wantFd(t, v, 2, fd, 7)
		}
	}
}

// What is no descriptor says none and isn't set, though other numbers stand where it would be.
func TestP15_5NoSuchDescriptor(t *testing.T) {
	for _, p := range all() {
		s := one(p)
		x := s.Get(object(p))
		for i := range x.N {
			x.N[i] = 5
		}
		s.Put(object(p), x)
		v := store.Look(s)
		for _, fd := range noFds() {
			wantFd(t, v, p, fd, -1)
			for _, f := range []int{0, 11, -1, math.MinInt, 12, math.MaxInt} {
				wantSetFd(t, v, p, fd, f, false)
			}
		}
		for fd := range maxFd {
			wantFd(t, v, p, fd, 4)
		}
		wantRedo(t, v)
	}
}

// Any numbers at all: those of 1 to MaxFiles are files, all others none.
func TestP15_5WhateverItSays(t *testing.T) {
	for _, p := range all() {
		for fd := range maxFd {
			s := one(p)
			for n := -20; n <= 40; n++ {
				set(s, object(p), at(fd), n)
				want := -1
				if n >= 1 && n <= 12 {
					want = n - 1
				}
				wantFd(t, store.Look(s), p, fd, want)
			}
			for _, n := range far() {
				set(s, object(p), at(fd), n)
				wantFd(t, store.Look(s), p, fd, -1)
			}
		}
	}
}

// Zombies have descriptors as others have, and so has whoever has an odd state.
func TestP15_5WhateverState(t *testing.T) {
	for _, state := range append([]int{alive, zombie}, oddStates()...) {
		s := one(5)
		set(s, object(5), 0, state)
		v := store.Look(s)
		wantFreeFd(t, v, 5, 0)
		wantSetFd(t, v, 5, 0, 6, true)
		wantFd(t, v, 5, 0, 6)
		wantFreeFd(t, v, 5, 1)
	}
	s := one(5)
	set(s, object(5), 0, 0)
	set(s, object(5), at(0), 7)
	v := store.Look(s)
	wantNone(t, v, 5)
	wantRedo(t, v)
}

// The least that says none, of all sets of those that do; nothing but 1 to MaxFiles says a file.
func TestP15_5TheLeastFree(t *testing.T) {
	none := []int{0, 13, -1, math.MaxInt, math.MinInt, 1<<32 + 1}
	for _, p := range all() {
		for free := range 1 << maxFd {
			s, want := one(p), -1
			for fd := maxFd - 1; fd >= 0; fd-- {
				if free>>fd%2 == 1 {
					set(s, object(p), at(fd), none[(fd+free)%len(none)])
					want = fd
				} else {
					set(s, object(p), at(fd), 1+(2*fd+free)%maxFiles)
				}
			}
			v := store.Look(s)
			wantFreeFd(t, v, p, want)
			wantRedo(t, v)
			if want < 0 {
				continue
			}
			wantSetFd(t, v, p, want, 0, true)
			for want++; want < maxFd && free>>want%2 == 0; want++ {
			}
			if want == maxFd {
				want = -1
			}
			wantFreeFd(t, v, p, want)
		}
	}
}

// All are set from the first to the last, then go from the last to the first; files may be said by more than one.
func TestP15_5AllInTurn(t *testing.T) {
	v := store.Look(store.New())
	wantNew(t, v, -1, 0)
	wantNew(t, v, 0, 1)
	for _, p := range []int{1, 0} {
		for fd := range maxFd {
			wantFreeFd(t, v, p, fd)
			wantFd(t, v, p, fd, -1)
			wantSetFd(t, v, p, fd, 11-fd/2, true)
			wantFd(t, v, p, fd, 11-fd/2)
		}
		wantFreeFd(t, v, p, -1)
	}
	for fd := maxFd - 1; fd >= 0; fd-- {
		wantSetFd(t, v, 1, fd, -1, true)
		wantFreeFd(t, v, 1, fd)
		wantFreeFd(t, v, 0, -1)
	}
	x := val(alive, 0, 1)
	for fd, f := range []int{12, 12, 11, 11, 10, 10} {
		x.N[8+fd] = f
	}
	wantRedo(t, v, put(table(), tableVal(3, 2)), put(object(0), x), put(object(1), val(alive, 1, 2)))
}

// Whether a file is open isn't asked: a descriptor says a number.
func TestP15_5TheFileIsNotAsked(t *testing.T) {
	for _, files := range []api.Value{zero, {N: [16]int{4095}}} {
		s := one(3)
		s.Put(api.Key{Kind: api.KFiles}, files)
		v := store.Look(s)
		for f := range maxFiles {
			s.Put(api.Key{Kind: api.KFile, N: f}, zero)
			wantSetFd(t, v, 3, 5, f, true)
			wantFd(t, v, 3, 5, f)
		}
	}
}
