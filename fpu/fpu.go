// Package fpu reckons with float64 numbers that are told as their bits.
package fpu

import (
	"math"

	"cloister/api"
)

const (
	leastNormal = 0x1p-1022 // what is nearer to nought is a denormal
	beyondInt   = 1 << 63   // the greatest int is no float, but the number behind it is one
	unordered   = 2         // what Cmp answers beside a NaN
)

// Kind of a float: not the bits are asked, so that all NaNs and both zeros are one.
func Kind(x uint64) int {
	f := math.Abs(math.Float64frombits(x))
	switch {
	case math.IsNaN(f):
		return api.FNaN
	case math.IsInf(f, 1):
		return api.FInf
	case f == 0:
		return api.FZero
	case f < leastNormal:
		return api.FSub
	}
	return api.FNormal
}

// Clean makes all NaNs the same one: which bits a NaN has hangs on the machine underneath.
func Clean(x uint64) uint64 {
	if isNaN(x) {
		return api.NaN
	}
	return x
}

// Op reckons one operation; what is no operation is no number.
func Op(op int, a, b uint64) uint64 {
	x, y := math.Float64frombits(a), math.Float64frombits(b)
	switch op {
	case api.OAdd:
		return told(x + y)
	case api.OSub:
		return told(x - y)
	case api.OMul:
		return told(x * y)
	case api.ODiv:
		return told(x / y)
	case api.OMin:
		return Clean(first(a, b))
	case api.OMax:
		return Clean(last(a, b))
	}
	return api.NaN
}

// Cmp compares as numbers: the zeros are equal, and a NaN is in no order.
func Cmp(a, b uint64) int {
	x, y := math.Float64frombits(a), math.Float64frombits(b)
	switch {
	case x < y:
		return -1
	case x > y:
		return 1
	case x == y:
		return 0
	}
	return unordered
}

// Order is total: it tells the zeros apart, and puts NaNs last.
func Order(a, b uint64) int {
	c := Cmp(a, b)
	switch c {
	case unordered:
		return noAheadOfYes(isNaN(a), isNaN(b))
	case 0:
		// Equal numbers differ in their sign only if they are the two zeros.
		return noAheadOfYes(!isNegative(a), !isNegative(b))
	}
	return c
}

// Int cuts towards nought. What is beyond is asked ahead, as Go leaves open what such a conversion gives.
func Int(x uint64) (int, bool) {
	f := math.Float64frombits(x)
	switch {
	case math.IsNaN(f):
		return 0, false
	case f >= beyondInt:
		return math.MaxInt, false
	case f < -beyondInt:
		return math.MinInt, false
	}
	return int(f), true
}

// Of is the nearest float, the even one of two that are as near.
func Of(n int) uint64 {
	return math.Float64bits(float64(n))
}

func isNaN(x uint64) bool {
	return math.IsNaN(math.Float64frombits(x))
}

func isNegative(x uint64) bool {
	return math.Signbit(math.Float64frombits(x))
}

func told(f float64) uint64 {
	return Clean(math.Float64bits(f))
}

func first(a, b uint64) uint64 {
	if Order(a, b) <= 0 {
		return a
	}
	return b
}

// last passes over a NaN, although Order puts it behind all numbers.
func last(a, b uint64) uint64 {
	if isNaN(a) {
		return b
	}
	if isNaN(b) || Order(a, b) >= 0 {
		return a
	}
	return b
}

func noAheadOfYes(a, b bool) int {
	switch {
	case a == b:
		return 0
	case b:
		return -1
	}
	return 1
}
