package unix_test

import (
	"math"
	"testing"

	"cloister/api"
	"cloister/unix"
)

// bits are some floats, by hand: zeros, ones, denormals, the greatest, infinities, and NaNs of many bits.
func bits() []uint64 {
	return []uint64{
		api.PosZero, api.NegZero, api.One, 1<<63 | api.One, api.Half, 0x4008000000000000, 1, 1<<63 | 1, 0x000fffffffffffff, 0x0010000000000000,
		0x7fefffffffffffff, 0xffefffffffffffff, api.PosInf, api.NegInf, api.NaN, 0x7ff0000000000001, 0xfff8000000000000, 0xffffffffffffffff, 0x3ff0000000000001,
	}
}

// registered lets the first process's registers have these.
func registered(x *sys, at map[int]uint64) {
	for r, b := range at {
		set(x.s, memory(0), r, int(b))
	}
}

func TestP18_20Operations(t *testing.T) {
	const three = 0x4008000000000000
	for i, q := range []struct {
		op         int
		a, b, want uint64
	}{
		{api.OAdd, api.One, api.One, 0x4000000000000000}, {api.OAdd, api.NegZero, api.NegZero, api.NegZero}, {api.OAdd, api.PosInf, api.NegInf, api.NaN}, {api.OAdd, 0xfff0000000000001, api.One, api.NaN}, {api.OSub, api.One, api.One, api.PosZero}, {api.OSub, api.NegZero, api.PosZero, api.NegZero}, {api.OMul, api.NegInf, api.PosZero, api.NaN}, {api.OMul, api.NegZero, three, api.NegZero}, {api.ODiv, api.One, api.NegZero, api.NegInf}, {api.ODiv, api.NegZero, api.PosZero, api.NaN}, {api.ODiv, api.One, three, 0x3fd5555555555555}, {api.OMin, api.PosZero, api.NegZero, api.NegZero}, {api.OMin, 0xffffffffffffffff, three, three}, {api.OMin, 0xffffffffffffffff, 0x7ff0000000000001, api.NaN}, {api.OMax, api.NegZero, api.PosZero, api.PosZero}, {api.OMax, api.NegInf, api.NaN, api.NegInf}, {api.OMax, three, api.One, three},
	} {
		for b := range registers {
			for c := range registers {
				x := boot(t, 8, 1)
				registered(x, map[int]uint64{b: q.a, c: q.b})
				if b == c && q.a != q.b {
					continue
				}
				mem := x.s.Get(memory(0))
				mem.N[b] = int(q.want)
				wantAct(t, "an operation", x.act(0, api.CFloat, q.op, b, c), api.Act{
					Reads: keys(procs(), process(0), memory(0)),
					Redo:  []api.Write{put(memory(0), mem)},
				})
				if t.Failed() {
					t.Fatal(i, b, c)
				}
			}
		}
	}
}

// Of 0 the register is the number C itself, and not what register C has.
func TestP18_20SmallNumbers(t *testing.T) {
	for c, want := range []uint64{0, api.One, 0x4000000000000000, 0x4008000000000000, 0x4010000000000000, 0x4014000000000000, 0x4018000000000000, 0x401c000000000000} {
		for b := range registers {
			x := boot(t, 8, 1)
			registered(x, map[int]uint64{b: api.NaN, c: api.NegInf})
			mem := x.s.Get(memory(0))
			mem.N[b] = int(want)
			wantAct(t, "a number", x.act(0, api.CFloat, 0, b, c), api.Act{
				Reads: keys(procs(), process(0), memory(0)),
				Redo:  []api.Write{put(memory(0), mem)},
			})
		}
	}
}

// Any other operation compares: 0 below, 1 equal, 2 above, 3 beside a NaN. Nothing is written.
func TestP18_20Comparisons(t *testing.T) {
	for _, op := range append([]int{7, 8, 9, -1, -2, -6, 255, 257}, far()...) {
		x := boot(t, 8, 1)
		for i, a := range bits() {
			for j, b := range bits() {
				registered(x, map[int]uint64{i % 8: a})
				if i%8 == j%8 {
					b = a
				}
				registered(x, map[int]uint64{j % 8: b})
				f, g := math.Float64frombits(a), math.Float64frombits(b)
				want := 3
				switch {
				case f < g:
					want = 0
				case f == g:
					want = 1
				case f > g:
					want = 2
				}
				wantAct(t, "a comparison", unix.Do(x.s, 0, call(api.CFloat, op, i%8, j%8)), api.Act{Ret: want, Reads: keys(procs(), process(0), memory(0))})
			}
		}
	}
}

// All operations on all of the floats, against what is told of them.
func TestP18_20EdgesOfFloats(t *testing.T) {
	x := boot(t, 8, 1)
	for _, a := range bits() {
		for _, b := range bits() {
			registered(x, map[int]uint64{0: a, 7: b})
			for op := -1; op <= 7; op++ {
				wantTold(t, x.s, 0, call(api.CFloat, op, 0, 7))
				wantTold(t, x.s, 0, call(api.CFloat, op, 7, 0))
				wantTold(t, x.s, 0, call(api.CFloat, op, 7, 7))
			}
		}
	}
}

func TestP18_20Registers(t *testing.T) {
	x := boot(t, 8, 1)
	for _, r := range append([]int{8, 9, 15, 16, -1, -8}, far()...) {
		for op := -1; op <= 7; op++ {
			for ok := range registers {
				x.refuses(keys(procs(), process(0)), 0, api.CFloat, op, r, ok)
				x.refuses(keys(procs(), process(0)), 0, api.CFloat, op, ok, r)
			}
			x.refuses(keys(procs(), process(0)), 0, api.CFloat, op, r, r)
		}
		x.refuses(keys(procs(), process(0)), 0, api.CWeight, r)
	}
}

// The weight has the register's bits as they are.
func TestP18_20Weight(t *testing.T) {
	for r := range registers {
		for _, b := range bits() {
			x := boot(t, 8, 1)
			for other := range registers {
				registered(x, map[int]uint64{other: api.Half, r: b})
			}
			mem := x.s.Get(memory(0))
			mem.N[registers] = int(b)
			wantAct(t, "a weight", x.act(0, api.CWeight, r), api.Act{
				Reads: keys(procs(), process(0), memory(0)),
				Redo:  []api.Write{put(memory(0), mem)},
			})
		}
	}
}

// Floats are one's own: a child has its parent's, and what it does with them is nothing to the parent.
func TestP18_20FloatsAreOnesOwn(t *testing.T) {
	x := boot(t, 8, 1)
	x.is(0, 0, api.CFloat, 0, 3, 7)
	x.is(0, 0, api.CWeight, 3)
	x.is(2, 0, api.CFork)
	x.is(0, 1, api.CFloat, api.OAdd, 3, 3)
	x.is(0, 0, api.CFloat, api.ODiv, 3, 5)
	x.is(0, 1, api.CWeight, 5)
	x.numbers(memory(0), 0, 0, 0, api.PosInf, 0, 0, 0, 0, 0x401c000000000000)
	x.numbers(memory(1), 0, 0, 0, 0x402c000000000000)
}
