package hart_test

import (
	"math"
	"testing"

	"cloister/api"
	"cloister/halt"
	"cloister/hart"
)

const mails = 8

func wantStop(t *testing.T, what string, why, at int, f func()) {
	t.Helper()
	want := api.Stop{Why: why, At: at}
	if stop, stopped := halt.Guard(f); !stopped || stop != want {
		t.Errorf("%s: %v, %v, not %v, true", what, stop, stopped, want)
	}
}

func wantOn(t *testing.T, what string, x *hart.Harts, h int, on bool, nest int) {
	t.Helper()
	if x.On(h) != on || x.Nest(h) != nest {
		t.Errorf("%s: hart %d: On %v, Nest %d, not %v, %d", what, h, x.On(h), x.Nest(h), on, nest)
	}
}

func wantDue(t *testing.T, what string, x *hart.Harts, h int, due bool) {
	t.Helper()
	if x.Due(h) != due {
		t.Errorf("%s: hart %d: Due %v, not %v", what, h, !due, due)
	}
}

// wantTaken empties the mailbox, and wants it to stay so.
func wantTaken(t *testing.T, what string, x *hart.Harts, h int, mail ...int) {
	t.Helper()
	for _, m := range mail {
		if got, ok := x.Take(h); got != m || !ok {
			t.Errorf("%s: hart %d: Take %d, %v, not %d, true", what, h, got, ok, m)
		}
	}
	for range 2 {
		if got, ok := x.Take(h); got != 0 || ok {
			t.Errorf("%s: hart %d: Take of none: %d, %v, not 0, false", what, h, got, ok)
		}
	}
}

// outside are no harts of n.
func outside(n int) []int {
	return []int{
		-1, -2, -n, -n - 1, n, n + 1, 2 * n, 99, 1<<8 | n/2, 1 << 16, 1 << 32, 1<<32 + n/2, n/2 - 1<<32,
		math.MaxInt, math.MinInt, math.MinInt + 1,
	}
}

// noMail are numbers that no mail has.
func noMail() []int {
	return []int{
		-1, -2, -7, -8, 8, 9, 15, 16, 31, 32, 63, 64, 65, 256, 257, 1 << 32, 1<<32 + 3, 3 - 1<<32,
		math.MaxInt, math.MinInt, math.MinInt + 1,
	}
}

// calls are all calls of a hart, each of its own name.
func calls(x *hart.Harts, h int) map[string]func() {
	return map[string]func(){
		"On":              func() { x.On(h) },
		"Nest":            func() { x.Nest(h) },
		"Set true":        func() { x.Set(h, true) },
		"Set false":       func() { x.Set(h, false) },
		"Push":            func() { x.Push(h) },
		"Pop":             func() { x.Pop(h) },
		"Post":            func() { x.Post(h, 3) },
		"Post of no mail": func() { x.Post(h, 8) },
		"Take":            func() { x.Take(h) },
		"Due":             func() { x.Due(h) },
	}
}

func TestNoSuchHart(t *testing.T) {
	for n := 1; n <= api.MaxHarts; n++ {
		x := hart.New(n)
		for _, h := range outside(n) {
			for name, f := range calls(x, h) {
				wantStop(t, name, api.WHart, h, f)
			}
		}
		for h := range n {
			wantOn(t, "behind calls of no hart", x, h, true, 0)
			wantTaken(t, "behind calls of no hart", x, h)
		}
	}
}

func TestNoSuchHartAheadOfItsState(t *testing.T) {
	x := hart.New(2)
	x.Push(0)
	x.Push(1)
	for _, h := range outside(2) {
		wantStop(t, "Set while all are pushed", api.WHart, h, func() { x.Set(h, true) })
		for _, mail := range noMail() {
			wantStop(t, "Post of no mail", api.WHart, h, func() { x.Post(h, mail) })
		}
	}
}

func TestP4_1New(t *testing.T) {
	for n := 1; n <= api.MaxHarts; n++ {
		x := hart.New(n)
		if x.N() != n {
			t.Errorf("N: %d, not %d", x.N(), n)
		}
		for h := range n {
			wantOn(t, "a new one", x, h, true, 0)
			wantDue(t, "a new one", x, h, false)
			wantTaken(t, "a new one", x, h)
			wantStop(t, "Pop of a new one", api.WNest, h, func() { x.Pop(h) })
		}
	}
}

func TestP4_1NewOfWrongNumbers(t *testing.T) {
	for _, n := range append(outside(api.MaxHarts+1), 0) {
		x := hart.New(1)
		wantStop(t, "New", api.WHart, n, func() { x = hart.New(n) })
		if x.N() != 1 {
			t.Errorf("N of what was there: %d, not 1", x.N())
		}
	}
}

func TestP4_1NStays(t *testing.T) {
	x := hart.New(3)
	x.Push(0)
	x.Post(1, 7)
	x.Set(2, false)
	wantStop(t, "Push", api.WHart, 3, func() { x.Push(3) })
	if x.N() != 3 {
		t.Errorf("N: %d, not 3", x.N())
	}
}

func TestP4_1NewBehindOneThatWasUsed(t *testing.T) {
	x := hart.New(2)
	x.Set(0, false)
	x.Push(1)
	x.Post(1, 4)
	y := hart.New(2)
	for h := range 2 {
		wantOn(t, "a new one", y, h, true, 0)
		wantTaken(t, "a new one", y, h)
	}
	y.Push(0)
	y.Post(0, 6)
	wantOn(t, "the first", x, 0, false, 0)
	wantOn(t, "the first", x, 1, false, 1)
	wantTaken(t, "the first", x, 0)
	wantTaken(t, "the first", x, 1, 4)
}

func TestP4_2Set(t *testing.T) {
	x := hart.New(api.MaxHarts)
	for h := range api.MaxHarts {
		for _, on := range []bool{true, false, false, true, true, false} {
			x.Set(h, on)
			wantOn(t, "behind Set", x, h, on, 0)
		}
	}
}

func TestP4_2SetWhilePushed(t *testing.T) {
	for _, was := range []bool{true, false} {
		for h := range 3 {
			x := hart.New(3)
			x.Set(h, was)
			for nest := 1; nest <= 3; nest++ {
				x.Push(h)
				for _, on := range []bool{true, false} {
					wantStop(t, "Set", api.WState, h, func() { x.Set(h, on) })
					wantOn(t, "behind a Set that stopped", x, h, false, nest)
				}
			}
			for range 3 {
				x.Pop(h)
			}
			wantOn(t, "behind all pops", x, h, was, 0)
			x.Set(h, !was)
			wantOn(t, "a Set behind all pops", x, h, !was, 0)
		}
	}
}

func TestP4_2PushesWithinEachOther(t *testing.T) {
	for _, was := range []bool{true, false} {
		for h := range api.MaxHarts {
			x := hart.New(api.MaxHarts)
			x.Set(h, was)
			for nest := 1; nest <= 300; nest++ {
				x.Push(h)
				wantOn(t, "behind Push", x, h, false, nest)
			}
			for nest := 299; nest >= 1; nest-- {
				x.Pop(h)
				wantOn(t, "behind Pop", x, h, false, nest)
			}
			x.Pop(h)
			wantOn(t, "behind the last Pop", x, h, was, 0)
		}
	}
}

func TestP4_2ManyPushes(t *testing.T) {
	const many = 1<<16 + 3
	x := hart.New(1)
	for range many {
		x.Push(0)
	}
	wantOn(t, "behind many pushes", x, 0, false, many)
	for range many {
		x.Pop(0)
	}
	wantOn(t, "behind as many pops", x, 0, true, 0)
}

func TestP4_2PushKeepsWhatOnIsThen(t *testing.T) {
	x := hart.New(1)
	for _, was := range []bool{true, false, true, true, false, false, true} {
		x.Set(0, was)
		x.Push(0)
		wantOn(t, "behind Push", x, 0, false, 1)
		x.Pop(0)
		wantOn(t, "behind Pop", x, 0, was, 0)
	}
}

func TestP4_2PopOfNone(t *testing.T) {
	for _, was := range []bool{true, false} {
		for h := range 2 {
			x := hart.New(2)
			x.Set(h, was)
			x.Push(h)
			x.Pop(h)
			x.Push(1 - h)
			for range 3 {
				wantStop(t, "Pop", api.WNest, h, func() { x.Pop(h) })
				wantOn(t, "behind a Pop that stopped", x, h, was, 0)
			}
			x.Push(h)
			wantOn(t, "a Push behind it", x, h, false, 1)
			x.Pop(h)
			wantOn(t, "a Pop behind it", x, h, was, 0)
		}
	}
}

// posted has just the mail of a set's bits, from the greatest down, so that the order of posting is no help.
func posted(set int) (*hart.Harts, []int) {
	x := hart.New(1)
	mail := []int{}
	for m := mails - 1; m >= 0; m-- {
		if set>>m&1 == 1 {
			x.Post(0, m)
			mail = append([]int{m}, mail...)
		}
	}
	return x, mail
}

func TestP4_3EveryMailbox(t *testing.T) {
	for set := range 1 << mails {
		x, mail := posted(set)
		wantDue(t, "posted", x, 0, set != 0)
		wantTaken(t, "posted", x, 0, mail...)
		wantDue(t, "taken", x, 0, false)
	}
}

func TestP4_3OnceInTheMailbox(t *testing.T) {
	x := hart.New(1)
	for mail := range mails {
		x.Post(0, mail)
		x.Post(0, mail)
		wantTaken(t, "posted twice", x, 0, mail)
		x.Post(0, mail)
		wantTaken(t, "posted again", x, 0, mail)
	}
	for range 2 {
		for _, mail := range []int{0, 7, 3} {
			x.Post(0, mail)
		}
	}
	wantTaken(t, "all posted twice", x, 0, 0, 3, 7)
}

func TestP4_3PostBetweenTakes(t *testing.T) {
	x := hart.New(1)
	x.Post(0, 4)
	x.Post(0, 6)
	if mail, ok := x.Take(0); mail != 4 || !ok {
		t.Errorf("Take: %d, %v, not 4, true", mail, ok)
	}
	x.Post(0, 0)
	x.Post(0, 5)
	wantTaken(t, "posted between", x, 0, 0, 5, 6)
}

func TestP4_3NoSuchMail(t *testing.T) {
	for h := range api.MaxHarts {
		for _, mail := range noMail() {
			x := hart.New(api.MaxHarts)
			wantStop(t, "Post", api.WState, mail, func() { x.Post(h, mail) })
			wantDue(t, "behind a Post that stopped", x, h, false)
			wantTaken(t, "behind a Post that stopped", x, h)
			x.Post(h, 3)
			wantStop(t, "Post", api.WState, mail, func() { x.Post(h, mail) })
			wantDue(t, "behind a Post that stopped", x, h, true)
			wantTaken(t, "behind a Post that stopped", x, h, 3)
		}
	}
}

func TestP4_3DueHangsOnBoth(t *testing.T) {
	for mail := range mails {
		x := hart.New(1)
		x.Set(0, false)
		wantDue(t, "off, no mail", x, 0, false)
		x.Post(0, mail)
		wantDue(t, "off, mail", x, 0, false)
		x.Set(0, true)
		wantDue(t, "on, mail", x, 0, true)
		x.Push(0)
		wantDue(t, "pushed, mail", x, 0, false)
		x.Push(0)
		x.Pop(0)
		wantDue(t, "pushed once still, mail", x, 0, false)
		x.Pop(0)
		wantDue(t, "popped, mail", x, 0, true)
		wantDue(t, "asked again", x, 0, true)
		wantTaken(t, "Due takes none", x, 0, mail)
		wantDue(t, "on, no mail", x, 0, false)
	}
}

func TestP4_3TakeAndPostWhileOff(t *testing.T) {
	x := hart.New(1)
	x.Post(0, 7)
	x.Push(0)
	x.Post(0, 0)
	wantTaken(t, "while a push is open", x, 0, 0, 7)
	wantOn(t, "behind Take", x, 0, false, 1)
	x.Pop(0)
	x.Set(0, false)
	x.Post(0, 1)
	wantTaken(t, "while it is set off", x, 0, 1)
	wantOn(t, "behind Take", x, 0, false, 0)
}

func TestP4_3MailLeavesOnAndNest(t *testing.T) {
	x := hart.New(1)
	for mail := range mails {
		x.Post(0, mail)
		wantOn(t, "behind Post", x, 0, true, 0)
	}
	wantTaken(t, "all mail", x, 0, 0, 1, 2, 3, 4, 5, 6, 7)
	wantOn(t, "behind Take", x, 0, true, 0)
}

// walk does pushes and pops that match: each bit of way opens one or closes one, as long as one is open.
func walk(x *hart.Harts, h, way, steps int) {
	open := 0
	for i := range steps {
		if way>>i&1 == 1 {
			x.Push(h)
			open++
		} else if open > 0 {
			x.Pop(h)
			open--
		}
	}
	for range open {
		x.Pop(h)
	}
}

func TestP4_4PushesAndPopsThatMatch(t *testing.T) {
	const steps = 9
	for _, was := range []bool{true, false} {
		x := hart.New(2)
		x.Set(1, was)
		for way := range 1 << steps {
			walk(x, 1, way, steps)
			wantOn(t, "behind pushes and pops", x, 1, was, 0)
		}
		wantOn(t, "the other", x, 0, true, 0)
	}
}

// state is what can be told of a hart without a change; mail is asked at the end.
type state struct {
	on   bool
	nest int
	mail []int
}

// unlike makes all harts, each in a state unlike that of its neighbours.
func unlike() (*hart.Harts, []state) {
	x := hart.New(api.MaxHarts)
	l := make([]state, api.MaxHarts)
	for h := range l {
		on := h%3 != 0
		x.Set(h, on)
		nest := h % 2 * h
		for range nest {
			x.Push(h)
		}
		x.Post(h, h)
		l[h] = state{on && nest == 0, nest, []int{h}}
	}
	return x, l
}

func TestP4_4HartsDoNotTouchEachOther(t *testing.T) {
	for h := range api.MaxHarts {
		x, _ := unlike()
		names := []string{}
		for name := range calls(x, h) {
			names = append(names, name)
		}
		for _, name := range names {
			x, l := unlike()
			halt.Guard(calls(x, h)[name])
			for other, s := range l {
				if other == h {
					continue
				}
				wantOn(t, "behind "+name, x, other, s.on, s.nest)
				wantDue(t, "behind "+name, x, other, s.on)
				wantTaken(t, "behind "+name, x, other, s.mail...)
			}
		}
	}
}

func TestP4_4EachHartsMailIsItsOwn(t *testing.T) {
	x := hart.New(api.MaxHarts)
	for h := range api.MaxHarts {
		x.Post(h, h)
		x.Post(h, (h+3)%mails)
	}
	for h := api.MaxHarts - 1; h >= 0; h-- {
		a, b := h, (h+3)%mails
		wantTaken(t, "its own", x, h, min(a, b), max(a, b))
	}
}

func TestRuns(t *testing.T) {
	x := hart.New(2)
	x.Push(0)
	x.Push(0)
	x.Pop(0)
	wantOn(t, "one push open", x, 0, false, 1)
	x.Pop(0)
	wantOn(t, "none open", x, 0, true, 0)
	wantStop(t, "Pop(0)", api.WNest, 0, func() { x.Pop(0) })
	x.Post(1, 5)
	x.Post(1, 2)
	wantTaken(t, "mail of hart 1", x, 1, 2, 5)
}
