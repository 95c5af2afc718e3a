package unix

import (
	"cloister/api"
	"cloister/fpu"
)

// of is the operation that isn't fpu's: a register becomes a small number.
const of = 0

// float writes nothing if it only compares, and tells one more than that says, as -1 is a refusal.
func (w *work) float(op, b, c int) answer {
	if !isRegister(b) || !isRegister(c) {
		return refused()
	}
	x := w.memory()
	left, right := uint64(x.N[b]), uint64(x.N[c])
	switch {
	case op == of:
		x.N[b] = int(fpu.Of(c))
	case op >= api.OAdd && op <= api.OMax:
		x.N[b] = int(fpu.Op(op, left, right))
	default:
		return done(fpu.Cmp(left, right) + 1)
	}
	w.v.Put(memory(w.p), x)
	return done(0)
}

// weight takes the bits as they are: whoever shares by it sees to what isn't a number.
func (w *work) weight(r int) answer {
	if !isRegister(r) {
		return refused()
	}
	x := w.memory()
	x.N[api.Registers] = x.N[r]
	w.v.Put(memory(w.p), x)
	return done(0)
}

func isRegister(r int) bool { return r >= 0 && r < api.Registers }
