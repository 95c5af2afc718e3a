package file_test

import (
	"math"
	"testing"

	"cloister/api"
	"cloister/store"
)

// An inode's type, number, links and size, whatever the file's mode, offset and holders are.
func TestP14_7EveryInode(t *testing.T) {
	for i := 1; i < 16; i++ {
		for _, typ := range append([]int{dirType, fileType, deviceType, 4, -1}, far()...) {
			for _, mode := range []int{0, reads, writes, both, -1} {
				links, size := 3*i-5, 9*i
				v := store.Look(one(i%12, val(node, i-3, i, 5-i, mode), put(inodeOf(i), inodeVal(typ, links, 77, text(size)))))
				wantStat(t, v, i%12, api.Stat{Type: typ, Inode: i, Links: links, Size: size})
				wantRedo(t, v)
			}
		}
	}
}

func TestP14_7AnyLinksAndSizes(t *testing.T) {
	for _, links := range append(counts(), far()...) {
		for _, size := range []int{0, 1, 127, 128, 129, 300} {
			v := store.Look(one(0, val(node, 1, 15, 0, 0), put(inodeOf(15), inodeVal(fileType, links, -9, text(size)))))
			wantStat(t, v, 0, api.Stat{Type: fileType, Inode: 15, Links: links, Size: size})
		}
	}
}

// It tells what is now, behind writes and changes of the inode.
func TestP14_7AsItIsNow(t *testing.T) {
	v := store.Look(one(7, val(node, 1, 3, 0, both), put(inodeOf(3), inodeVal(fileType, 0, 1, ""))))
	wantStat(t, v, 7, api.Stat{Type: fileType, Inode: 3})
	wantWrite(t, v, 7, "abc", 3, done)
	wantStat(t, v, 7, api.Stat{Type: fileType, Inode: 3, Size: 3})
	v.Put(inodeOf(3), inodeVal(fileType, 2, 1, "abcdef"))
	wantStat(t, v, 7, api.Stat{Type: fileType, Inode: 3, Links: 2, Size: 6})
	wantDup(t, v, 7, true)
	wantClose(t, v, 7, true)
	wantStat(t, v, 7, api.Stat{Type: fileType, Inode: 3, Links: 2, Size: 6})
	wantClose(t, v, 7, true)
	wantNoStat(t, v, 7)
}

// Of an end of a pipe, an odd kind, what is no inode, and what is no open file, nothing is told.
func TestP14_7None(t *testing.T) {
	for _, kind := range append([]int{0, reader, writer, 4, 5, -1}, far()...) {
		for what := range 17 {
			s := full(odd | every)
			x := s.Get(object(5))
			x.N[0], x.N[2] = kind, what
			v := store.Look(with(s, put(object(5), x)))
			wantNoStat(t, v, 5)
			wantRedo(t, v)
		}
	}
	for _, what := range append([]int{0, 16, 17, 64, -1}, far()...) {
		s := full(odd | every)
		x := s.Get(object(5))
		x.N[0], x.N[2] = node, what
		wantNoStat(t, store.Look(with(s, put(object(5), x))), 5)
	}
	for i := 1; i < 16; i++ {
		wantNoStat(t, store.Look(one(5, val(node, 1, i, 0, both), put(inodes(), bits(i)), put(inodeOf(i), inodeVal(0, 1, 1, "abc")))), 5)
	}
	v := store.Look(full(odd | every))
	for _, f := range append(strangers(), math.MinInt, math.MaxInt) {
		wantNoStat(t, v, f)
	}
	if len(v.Foot()) != 0 {
		t.Error(v.Foot())
	}
}
