package fpu_test

import (
	"math"
	"math/big"
	"testing"

	"cloister/api"
	"cloister/fpu"
)

const sign = 1 << 63

func bits(f float64) uint64 { return math.Float64bits(f) }

// numbers are floats in their order, no NaN among them.
func numbers() []uint64 {
	positive := []uint64{
		api.PosZero, 1, 2, 3, 1<<51 + 1, 1<<52 - 1, 1 << 52, 1<<52 + 1, bits(1e-300), bits(1e-20),
		bits(0.1), bits(0.2), api.Half, api.One - 1, api.One, api.One + 1, bits(1.5), bits(2.5), bits(3), bits(10),
		bits(1<<53 - 1), bits(1 << 53), bits(1<<53 + 2), bits(1<<63) - 1, bits(1 << 63), bits(1<<63) + 1,
		bits(1e300), bits(math.MaxFloat64) - 1, bits(math.MaxFloat64), api.PosInf,
	}
	var all []uint64
	for i := len(positive) - 1; i >= 0; i-- {
		all = append(all, positive[i]|sign)
	}
	return append(all, positive...)
}

// nans are of many bits: quiet and signalling ones, of both signs.
func nans() []uint64 {
	return []uint64{
		api.NaN, api.NaN | 1, api.NaN | sign, api.PosInf | 1, api.NegInf | 1, api.PosInf | (1<<51 - 1),
		api.NegInf | 1<<50, api.PosInf | (1<<52 - 1), math.MaxUint64,
	}
}

func isZero(x uint64) bool     { return x&^sign == 0 }
func isInfinite(x uint64) bool { return x&^sign == api.PosInf }
func isNegative(x uint64) bool { return x&sign != 0 }

// kindByBits reads the exponent and the fraction, as IEEE 754 lays them out.
func kindByBits(x uint64) int {
	exponent, fraction := x>>52&0x7ff, x&(1<<52-1)
	switch {
	case exponent == 0x7ff && fraction != 0:
		return api.FNaN
	case exponent == 0x7ff:
		return api.FInf
	case exponent == 0 && fraction == 0:
		return api.FZero
	case exponent == 0:
		return api.FSub
	}
	return api.FNormal
}

func TestP1_1KindsOfEdges(t *testing.T) {
	for _, c := range []struct {
		x    uint64
		kind int
	}{
		{api.NaN, api.FNaN}, {api.PosInf + 1, api.FNaN}, {api.NegInf + 1, api.FNaN}, {math.MaxUint64, api.FNaN},
		{api.PosInf, api.FInf}, {api.NegInf, api.FInf},
		{api.PosZero, api.FZero}, {api.NegZero, api.FZero},
		{1, api.FSub}, {sign | 1, api.FSub}, {1<<52 - 1, api.FSub}, {sign | (1<<52 - 1), api.FSub},
		{1 << 52, api.FNormal}, {sign | 1<<52, api.FNormal}, {api.PosInf - 1, api.FNormal}, {api.NegInf - 1, api.FNormal},
		{api.One, api.FNormal}, {bits(-2.5), api.FNormal},
	} {
		if got := fpu.Kind(c.x); got != c.kind {
			t.Errorf("Kind(%#x) = %d, not %d", c.x, got, c.kind)
		}
	}
}

func TestP1_1KindAndCleanOfEveryExponent(t *testing.T) {
	for high := uint64(0); high < 1<<12; high++ {
		for _, fraction := range []uint64{0, 1, 1 << 51, 1<<51 | 1, 1<<52 - 1} {
			x := high<<52 | fraction
			kind, clean := kindByBits(x), x
			if kind == api.FNaN {
				clean = api.NaN
			}
			if got := fpu.Kind(x); got != kind {
				t.Fatalf("Kind(%#x) = %d, not %d", x, got, kind)
			}
			if got := fpu.Clean(x); got != clean {
				t.Fatalf("Clean(%#x) = %#x, not %#x", x, got, clean)
			}
		}
	}
}

// exact reckons with fractions and rounds once; both are finite, and b is no zero in a quotient.
func exact(op int, a, b uint64) *big.Rat {
	x := new(big.Rat).SetFloat64(math.Float64frombits(a))
	y := new(big.Rat).SetFloat64(math.Float64frombits(b))
	switch op {
	case api.OAdd:
		return x.Add(x, y)
	case api.OSub:
		return x.Sub(x, y)
	case api.OMul:
		return x.Mul(x, y)
	}
	return x.Quo(x, y)
}

func isExactCase(op int, a, b uint64) bool {
	return !isInfinite(a) && !isInfinite(b) && !(op == api.ODiv && isZero(b))
}

func TestP1_2RoundsToTheNearestEven(t *testing.T) {
	for op := api.OAdd; op <= api.ODiv; op++ {
		for _, a := range numbers() {
			for _, b := range numbers() {
				if !isExactCase(op, a, b) {
					continue
				}
				want := exact(op, a, b)
				if want.Sign() == 0 {
					continue // a fraction has one zero only: TestP1_6 asks for its sign
				}
				nearest, _ := want.Float64()
				if got := fpu.Op(op, a, b); got != bits(nearest) {
					t.Errorf("Op(%d, %#x, %#x) = %#x, not %#x", op, a, b, got, bits(nearest))
				}
			}
		}
	}
}

func TestP1_2Edges(t *testing.T) {
	greatest, half := bits(math.MaxFloat64), uint64(api.Half)
	for _, c := range []struct {
		op         int
		a, b, want uint64
	}{
		{api.OAdd, bits(0.1), bits(0.2), bits(0.30000000000000004)},
		{api.OAdd, bits(1 << 53), api.One, bits(1 << 53)},
		{api.OAdd, bits(1<<53 + 2), api.One, bits(1<<53 + 4)},
		{api.OAdd, greatest, greatest, api.PosInf},
		{api.OSub, greatest | sign, greatest, api.NegInf},
		{api.OAdd, 1<<52 - 1, 1, 1 << 52},
		{api.OSub, 1 << 52, 1, 1<<52 - 1},
		{api.OMul, 1, half, api.PosZero},
		{api.OMul, sign | 1, half, api.NegZero},
		{api.OMul, 3, half, 2},
		{api.OMul, 5, half, 2},
		{api.OMul, greatest, bits(-2), api.NegInf},
		{api.ODiv, api.One, bits(3), bits(1.0 / 3)},
		{api.ODiv, 1, bits(2), api.PosZero},
		{api.ODiv, greatest, half, api.PosInf},
	} {
		if got := fpu.Op(c.op, c.a, c.b); got != c.want {
			t.Errorf("Op(%d, %#x, %#x) = %#x, not %#x", c.op, c.a, c.b, got, c.want)
		}
	}
}

func TestP1_2NaNsComeOutClean(t *testing.T) {
	for _, n := range nans() {
		for op := api.OAdd; op <= api.ODiv; op++ {
			for _, x := range append(numbers(), nans()...) {
				if fpu.Op(op, n, x) != api.NaN || fpu.Op(op, x, n) != api.NaN {
					t.Errorf("Op(%d) of %#x and %#x is not api.NaN", op, n, x)
				}
			}
		}
	}
}

func TestP1_2MinAndMax(t *testing.T) {
	all := numbers()
	for i, a := range all {
		for k, b := range all {
			if got := fpu.Op(api.OMin, a, b); got != all[min(i, k)] {
				t.Errorf("OMin(%#x, %#x) = %#x", a, b, got)
			}
			if got := fpu.Op(api.OMax, a, b); got != all[max(i, k)] {
				t.Errorf("OMax(%#x, %#x) = %#x", a, b, got)
			}
		}
	}
}

func TestP1_2MinAndMaxBesideNaN(t *testing.T) {
	for _, op := range []int{api.OMin, api.OMax} {
		for _, n := range nans() {
			for _, x := range numbers() {
				if fpu.Op(op, n, x) != x || fpu.Op(op, x, n) != x {
					t.Errorf("Op(%d) of %#x and %#x is not the number", op, n, x)
				}
			}
			for _, other := range nans() {
				if got := fpu.Op(op, n, other); got != api.NaN {
					t.Errorf("Op(%d, %#x, %#x) = %#x", op, n, other, got)
				}
			}
		}
	}
}

func TestP1_2NoOperation(t *testing.T) {
	inputs := append(numbers(), nans()...)
	for _, op := range []int{math.MinInt, -1, 0, api.OMax + 1, 256 + api.OAdd, 1<<32 + api.OAdd, math.MaxInt} {
		for _, a := range inputs {
			for _, b := range inputs {
				if got := fpu.Op(op, a, b); got != api.NaN {
					t.Fatalf("Op(%d, %#x, %#x) = %#x", op, a, b, got)
				}
			}
		}
	}
}

func TestP1_3CmpOfNumbers(t *testing.T) {
	all := numbers()
	for i, a := range all {
		for k, b := range all {
			want := min(1, max(-1, i-k))
			if isZero(a) && isZero(b) {
				want = 0
			}
			if got := fpu.Cmp(a, b); got != want {
				t.Errorf("Cmp(%#x, %#x) = %d, not %d", a, b, got, want)
			}
		}
	}
}

func TestP1_3CmpBesideNaN(t *testing.T) {
	for _, n := range nans() {
		for _, x := range append(numbers(), nans()...) {
			if fpu.Cmp(n, x) != 2 || fpu.Cmp(x, n) != 2 {
				t.Errorf("Cmp of %#x and %#x is not 2", n, x)
			}
		}
	}
}

func TestP1_4OrderOfNumbers(t *testing.T) {
	all := numbers()
	for i, a := range all {
		for k, b := range all {
			want := min(1, max(-1, i-k))
			if got := fpu.Order(a, b); got != want {
				t.Errorf("Order(%#x, %#x) = %d, not %d", a, b, got, want)
			}
		}
	}
}

func TestP1_4NaNsAreOneAndLast(t *testing.T) {
	for _, n := range nans() {
		for _, x := range numbers() {
			if fpu.Order(x, n) != -1 || fpu.Order(n, x) != 1 {
				t.Errorf("%#x does not stand behind %#x", n, x)
			}
		}
		for _, other := range nans() {
			if got := fpu.Order(n, other); got != 0 {
				t.Errorf("Order(%#x, %#x) = %d", n, other, got)
			}
		}
	}
}

func TestP1_5IntCutsTowardsNought(t *testing.T) {
	for _, c := range []struct {
		x  uint64
		n  int
		ok bool
	}{
		{api.PosZero, 0, true}, {api.NegZero, 0, true}, {1, 0, true}, {sign | 1, 0, true}, {1<<52 - 1, 0, true},
		{bits(0.5), 0, true}, {bits(-0.5), 0, true}, {api.One - 1, 0, true}, {(api.One - 1) | sign, 0, true},
		{api.One, 1, true}, {bits(-1), -1, true}, {bits(2.5), 2, true}, {bits(-2.5), -2, true}, {bits(3.5), 3, true},
		{bits(1<<52 + 0.5), 1 << 52, true}, {bits(1<<53 - 1), 1<<53 - 1, true}, {bits(-(1<<53 - 1)), -(1<<53 - 1), true},
		{bits(1<<63) - 1, 1<<63 - 1024, true}, {bits(1 << 63), math.MaxInt, false}, {bits(1<<63) + 1, math.MaxInt, false},
		{bits(-1<<63) - 1, -1<<63 + 1024, true}, {bits(-1 << 63), math.MinInt, true}, {bits(-1<<63) + 1, math.MinInt, false},
		{bits(1 << 64), math.MaxInt, false}, {bits(-1 << 64), math.MinInt, false},
		{bits(math.MaxFloat64), math.MaxInt, false}, {bits(-math.MaxFloat64), math.MinInt, false},
		{api.PosInf, math.MaxInt, false}, {api.NegInf, math.MinInt, false},
	} {
		if n, ok := fpu.Int(c.x); n != c.n || ok != c.ok {
			t.Errorf("Int(%#x) = %d, %v, not %d, %v", c.x, n, ok, c.n, c.ok)
		}
	}
}

func TestP1_5IntOfNaN(t *testing.T) {
	for _, x := range nans() {
		if n, ok := fpu.Int(x); n != 0 || ok {
			t.Errorf("Int(%#x) = %d, %v", x, n, ok)
		}
	}
}

func TestP1_5OfIsTheNearestEven(t *testing.T) {
	for _, c := range []struct {
		n    int
		want uint64
	}{
		{0, api.PosZero}, {1, api.One}, {-1, api.One | sign}, {1<<53 + 1, bits(1 << 53)}, {1<<53 + 3, bits(1<<53 + 4)},
		{-(1<<53 + 1), bits(-1 << 53)}, {-(1<<53 + 3), bits(-(1<<53 + 4))},
		{math.MaxInt, bits(1 << 63)}, {math.MaxInt - 511, bits(1 << 63)}, {math.MaxInt - 512, bits(1<<63) - 1},
		{math.MinInt, bits(-1 << 63)}, {math.MinInt + 1, bits(-1 << 63)},
	} {
		if got := fpu.Of(c.n); got != c.want {
			t.Errorf("Of(%d) = %#x, not %#x", c.n, got, c.want)
		}
	}
	for shift := range 63 {
		for near := -3; near <= 3; near++ {
			for _, n := range []int{1<<shift + near, -(1 << shift) + near} {
				want, _ := new(big.Rat).SetInt64(int64(n)).Float64()
				if got := fpu.Of(n); got != bits(want) {
					t.Errorf("Of(%d) = %#x, not %#x", n, got, bits(want))
				}
			}
		}
	}
}

func TestP1_5IntUndoesOf(t *testing.T) {
	for shift := range 54 {
		for _, n := range []int{1 << shift, 1<<shift - 1, -1 << shift, 1 - 1<<shift} {
			if got, ok := fpu.Int(fpu.Of(n)); got != n || !ok {
				t.Errorf("Int(Of(%d)) = %d, %v", n, got, ok)
			}
		}
	}
}

func TestP1_6SignsOfProductsAndQuotients(t *testing.T) {
	for _, op := range []int{api.OMul, api.ODiv} {
		for _, a := range numbers() {
			for _, b := range numbers() {
				got := fpu.Op(op, a, b)
				if got != api.NaN && isNegative(got) != (isNegative(a) != isNegative(b)) {
					t.Errorf("Op(%d, %#x, %#x) = %#x: the sign is wrong", op, a, b, got)
				}
			}
		}
	}
}

func TestP1_6OppositesAddUpToPosZero(t *testing.T) {
	for _, x := range numbers() {
		want := uint64(api.PosZero)
		if isInfinite(x) {
			want = api.NaN
		}
		if got := fpu.Op(api.OAdd, x, x^sign); got != want {
			t.Errorf("OAdd(%#x, %#x) = %#x", x, x^sign, got)
		}
		if got := fpu.Op(api.OSub, x, x); got != want {
			t.Errorf("OSub(%#x, %#x) = %#x", x, x, got)
		}
	}
}

func TestP1_6SumsOfZeros(t *testing.T) {
	for _, c := range []struct {
		op         int
		a, b, want uint64
	}{
		{api.OAdd, api.NegZero, api.NegZero, api.NegZero}, {api.OAdd, api.PosZero, api.PosZero, api.PosZero},
		{api.OAdd, api.PosZero, api.NegZero, api.PosZero}, {api.OAdd, api.NegZero, api.PosZero, api.PosZero},
		{api.OSub, api.NegZero, api.PosZero, api.NegZero}, {api.OSub, api.PosZero, api.NegZero, api.PosZero},
	} {
		if got := fpu.Op(c.op, c.a, c.b); got != c.want {
			t.Errorf("Op(%d, %#x, %#x) = %#x, not %#x", c.op, c.a, c.b, got, c.want)
		}
	}
}

func TestP1_6QuotientsByZero(t *testing.T) {
	for _, a := range numbers() {
		for _, zero := range []uint64{api.PosZero, api.NegZero} {
			want := api.PosInf | (a^zero)&sign
			if isZero(a) {
				want = api.NaN
			}
			if got := fpu.Op(api.ODiv, a, zero); got != want {
				t.Errorf("ODiv(%#x, %#x) = %#x, not %#x", a, zero, got, want)
			}
		}
	}
}

func TestP1_6WithInfinities(t *testing.T) {
	for _, inf := range []uint64{api.PosInf, api.NegInf} {
		for _, x := range numbers() {
			sum, product, quotient := inf, api.PosInf|(x^inf)&sign, (x^inf)&sign
			if x == inf^sign {
				sum = api.NaN
			}
			if isZero(x) {
				product = api.NaN
			}
			if isInfinite(x) {
				quotient = api.NaN
			}
			if fpu.Op(api.OAdd, inf, x) != sum || fpu.Op(api.OAdd, x, inf) != sum || fpu.Op(api.OSub, inf, x^sign) != sum {
				t.Errorf("the sum of %#x and %#x is wrong", inf, x)
			}
			if fpu.Op(api.OMul, inf, x) != product || fpu.Op(api.OMul, x, inf) != product {
				t.Errorf("the product of %#x and %#x is wrong", inf, x)
			}
			if fpu.Op(api.ODiv, x, inf) != quotient {
				t.Errorf("the quotient of %#x by %#x is wrong", x, inf)
			}
		}
	}
}

func TestRuns(t *testing.T) {
	if got := fpu.Op(api.OAdd, api.NegZero, api.NegZero); got != api.NegZero {
		t.Errorf("OAdd(NegZero, NegZero) = %#x", got)
	}
	if got := fpu.Op(api.OMin, api.PosZero, api.NegZero); got != api.NegZero {
		t.Errorf("OMin(PosZero, NegZero) = %#x", got)
	}
	if got := fpu.Op(api.ODiv, api.One, api.NegZero); got != api.NegInf {
		t.Errorf("ODiv(One, NegZero) = %#x", got)
	}
	if got := fpu.Cmp(api.NegZero, api.PosZero); got != 0 {
		t.Errorf("Cmp(NegZero, PosZero) = %d", got)
	}
	if got := fpu.Order(api.NegZero, api.PosZero); got != -1 {
		t.Errorf("Order(NegZero, PosZero) = %d", got)
	}
	if n, ok := fpu.Int(bits(-2.5)); n != -2 || !ok {
		t.Errorf("Int(-2.5) = %d, %v", n, ok)
	}
}
