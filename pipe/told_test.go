package pipe_test

import (
	"slices"
	"testing"

	"cloister/api"
	"cloister/pipe"
	"cloister/store"
)

// Kinds of calls.
const (
	isCall = iota
	allocCall
	readCall
	writeCall
	endsCall
)

// call is one call: n is a Read's, d a Write's, writer and by are an Ends's.
type call struct {
	kind, q, n int
	d          string
	writer     bool
	by         int
}

// answer has what a call answers at the fields of its kinds.
type answer struct {
	s        string
	n, state int
	ok       bool
}

// telling is what a call must answer, read and write.
type telling struct {
	answer answer
	reads  []api.Key
	redo   []api.Write
}

func (c call) do(v *store.View) answer {
	var a answer
	switch c.kind {
	case isCall:
		a.ok = pipe.Is(v, c.q)
	case allocCall:
		a.n, a.ok = pipe.Alloc(v)
	case readCall:
		a.s, a.state = pipe.Read(v, c.q, c.n)
	case writeCall:
		a.n, a.state = pipe.Write(v, c.q, c.d)
	case endsCall:
		a.ok = pipe.Ends(v, c.q, c.writer, c.by)
	}
	return a
}

// tell tells from the store's values, in the chapter's order, what a call must do.
func tell(s *store.Store, c call) telling {
	if c.kind == allocCall {
		return tellAlloc(s.Get(table()))
	}
	no := telling{}
	switch c.kind {
	case readCall:
		no.answer.state = fails
	case writeCall:
		no.answer.n, no.answer.state = -1, fails
	}
	if !slices.Contains(all(), c.q) {
		return no
	}
	no.reads = keys(table())
	if s.Get(table()).N[0]>>c.q&1 == 0 {
		return no
	}
	if c.kind == isCall {
		no.answer.ok = true
		return no
	}
	if c.kind == readCall && c.n < 0 {
		return no
	}
	yes := telling{reads: keys(table(), object(c.q))}
	switch c.kind {
	case readCall:
		yes.read(c, s.Get(object(c.q)))
	case writeCall:
		yes.write(c, s.Get(object(c.q)))
	case endsCall:
		yes.ends(c, s.Get(object(c.q)), s.Get(table()))
	}
	return yes
}

func tellAlloc(used api.Value) telling {
	a := telling{reads: keys(table())}
	for _, q := range all() {
		if used.N[0]>>q&1 == 0 {
			used.N[0] += 1 << q
			a.answer.n, a.answer.ok = q, true
			a.redo = []api.Write{{Key: table(), Value: used}, {Key: object(q), Value: val(1, 1, "")}}
			return a
		}
	}
	return a
}

func (a *telling) read(c call, x api.Value) {
	if c.n == 0 {
		return
	}
	var out, left []byte
	for j := range len(x.S) {
		if j < c.n {
			out = append(out, x.S[j])
		} else {
			left = append(left, x.S[j])
		}
	}
	if len(out) > 0 {
		a.answer.s = string(out)
		x.S = string(left)
		a.redo = []api.Write{{Key: object(c.q), Value: x}}
		return
	}
	if x.N[1] > 0 {
		a.answer.state = blocks
	}
}

func (a *telling) write(c call, x api.Value) {
	if x.N[0] < 1 {
		a.answer.n, a.answer.state = -1, fails
		return
	}
	in := []byte(x.S)
	for j := 0; j < len(c.d) && len(in) < maxPipe; j++ {
		in = append(in, c.d[j])
		a.answer.n++
	}
	if a.answer.n > 0 {
		x.S = string(in)
		a.redo = []api.Write{{Key: object(c.q), Value: x}}
	} else if c.d != "" {
		a.answer.state = blocks
	}
}

func (a *telling) ends(c call, x, used api.Value) {
	a.answer.ok = true
	if c.writer {
		x.N[1] += c.by
	} else {
		x.N[0] += c.by
	}
	if max(x.N[0], x.N[1]) > 0 {
		a.redo = []api.Write{{Key: object(c.q), Value: x}}
		return
	}
	used.N[0] -= 1 << c.q
	a.redo = []api.Write{{Key: table(), Value: used}, {Key: object(c.q), Value: zero}}
}

// wantTold does the call through a new view of s, and wants what is told of it, and s as it was.
func wantTold(t *testing.T, s *store.Store, c call) {
	t.Helper()
	was, v := s.Twin(), store.Look(s)
	got, want := c.do(v), tell(s, c)
	if got != want.answer {
		t.Errorf("%v of %v: %v, not %v", c, s.Get(object(c.q)), got, want.answer)
	}
	if reads := v.Reads(); !slices.Equal(reads, want.reads) {
		t.Errorf("%v of %v: read %v, not %v", c, s.Get(object(c.q)), reads, want.reads)
	}
	if redo := v.Redo(); !slices.Equal(redo, want.redo) {
		t.Errorf("%v of %v: written %v, not %v", c, s.Get(object(c.q)), redo, want.redo)
	}
	for _, q := range all() {
		if s.Get(object(q)) != was.Get(object(q)) || s.Get(table()) != was.Get(table()) {
			t.Errorf("%v: the store has changed", c)
		}
	}
}

// calls are reads, writes and changes of ends of one pipe, about all that may be in it and far from it, and the others.
func calls(q int) []call {
	l := []call{{kind: isCall, q: q}, {kind: allocCall}}
	for n := -2; n <= maxPipe+3; n++ {
		l = append(l, call{kind: readCall, q: q, n: n})
	}
	for _, n := range append([]int{39, 40, 41}, far()...) {
		l = append(l, call{kind: readCall, q: q, n: n})
	}
	for n := range maxPipe + 4 {
		l = append(l, call{kind: writeCall, q: q, d: text(n + 5)[5:]})
	}
	l = append(l, call{kind: writeCall, q: q, d: text(1000)})
	for _, by := range counts() {
		l = append(l, call{kind: endsCall, q: q, by: by}, call{kind: endsCall, q: q, by: by, writer: true})
	}
	return l
}

// odd are bits that are no pipe's.
const odd = 1<<62 | 1<<32 | 1<<4

// Pipes with numbers of ends of all signs, and texts of all lengths about MaxPipe's, longer ones too: all calls.
func TestTellings(t *testing.T) {
	for _, readers := range []int{-1, 0, 1, 2} {
		for _, writers := range []int{-1, 0, 1, 2} {
			for _, size := range []int{0, 1, 2, 8, 15, 16, 17, 40} {
				q := (readers + writers + size + 2) % maxPipes
				s := full(1 << q)
				x := s.Get(object(q))
				x.N[0], x.N[1], x.S = readers, writers, text(size)
				s.Put(object(q), x)
				for _, c := range calls(q) {
					wantTold(t, s, c)
				}
			}
		}
		if t.Failed() {
			t.Fatalf("%d readers", readers)
		}
	}
}

// Numbers of ends far from 0: whatever they are, they are above 0 or not.
func TestTellingsOfFarEnds(t *testing.T) {
	for _, readers := range counts() {
		for _, writers := range counts() {
			for _, size := range []int{0, 5, 16} {
				s := full(odd | 8)
				x := val(readers, writers, text(size))
				s.Put(object(3), x)
				l := []call{{kind: readCall, q: 3, n: 3}, {kind: readCall, q: 3}, {kind: writeCall, q: 3, d: "abc"}, {kind: writeCall, q: 3}}
				for _, by := range counts() {
					l = append(l, call{kind: endsCall, q: 3, by: by}, call{kind: endsCall, q: 3, by: by, writer: true})
				}
				for _, c := range l {
					wantTold(t, s, c)
				}
			}
		}
		if t.Failed() {
			t.Fatalf("%d readers", readers)
		}
	}
}

// All tables of four bits, and odd ones; all pipes, and strangers.
func TestTellingsOfTables(t *testing.T) {
	for _, high := range oddTables() {
		for used := range 1 << maxPipes {
			s := full(high + used)
			for _, q := range append(all(), strangers()...) {
				for _, c := range []call{
					{kind: isCall, q: q}, {kind: allocCall, q: q}, {kind: readCall, q: q, n: 2}, {kind: readCall, q: q}, {kind: readCall, q: q, n: -1}, {kind: writeCall, q: q, d: "abcdefghijklmnopq"}, {kind: writeCall, q: q},
					{kind: endsCall, q: q, by: 1}, {kind: endsCall, q: q, by: -9999, writer: true}, {kind: endsCall, q: q, by: -9999},
				} {
					wantTold(t, s, c)
				}
			}
			if t.Failed() {
				t.Fatalf("table %d", high+used)
			}
		}
	}
}
