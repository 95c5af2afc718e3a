package ticket_test

import (
	"math"
	"testing"

	"cloister/api"
	"cloister/halt"
	"cloister/ticket"
	"cloister/word"
)

// queue is what a lock is without words: those with a ticket stand in line, and the one ahead has the turn.
type queue struct {
	line []int
	next int
}

// row is what a try must be.
type row struct{ lock, state, ticket int }

// yard has tries of locks in one memory, and beside them what they must be.
type yard struct {
	mem    *word.Mem
	tries  []*ticket.Try
	rows   []row
	queues map[int]*queue
	count  int
}

// newYard makes one try a lock that is named; each lock's first ticket is first.
func newYard(size, first int, locks []int) *yard {
	y := &yard{mem: word.New(size), queues: map[int]*queue{}}
	for _, a := range locks {
		y.tries = append(y.tries, ticket.New(a))
		y.rows = append(y.rows, row{a, ticket.Fresh, -1})
		y.queues[a] = &queue{next: first}
		y.mem.Store(a, first)
		y.mem.Store(a+1, first)
	}
	y.count = y.mem.Count()
	return y
}

// step does what a Step of try i must do, and tells what it must answer.
func (y *yard) step(i int) (bool, api.Stop) {
	r := &y.rows[i]
	q := y.queues[r.lock]
	switch r.state {
	case ticket.Fresh:
		q.line = append(q.line, i)
		r.state, r.ticket = ticket.Waits, q.next
		q.next++
		y.count++
	case ticket.Waits:
		if q.line[0] == i {
			r.state = ticket.Holds
		}
		y.count++
	case ticket.Done:
		return false, api.Stop{Why: api.WState, At: r.lock}
	}
	return r.state == ticket.Holds, api.Stop{}
}

// leave does what a Leave of try i must do.
func (y *yard) leave(i int) api.Stop {
	r := &y.rows[i]
	if r.state != ticket.Holds {
		return api.Stop{Why: api.WHeld, At: r.lock}
	}
	q := y.queues[r.lock]
	q.line = q.line[1:]
	r.state = ticket.Done
	y.count++
	return api.Stop{}
}

// check holds all tries against what they must be; of those of one lock never two hold.
func (y *yard) check(t *testing.T, picks []int) {
	t.Helper()
	holders := map[int]int{}
	for i, x := range y.tries {
		r := y.rows[i]
		if x.At() != r.state || x.Ticket() != r.ticket {
			t.Fatalf("%v: try %d: At %d, Ticket %d, not %v", picks, i, x.At(), x.Ticket(), r)
		}
		if x.At() == ticket.Holds {
			holders[r.lock]++
		}
		if holders[r.lock] > 1 {
			t.Fatalf("%v: %d hold the lock at %d", picks, holders[r.lock], r.lock)
		}
	}
	if y.mem.Count() != y.count {
		t.Fatalf("%v: %d accesses, not %d", picks, y.mem.Count(), y.count)
	}
}

func (y *yard) doStep(t *testing.T, picks []int, i int) {
	t.Helper()
	want, wantStop := y.step(i)
	got := false
	stop, _ := halt.Guard(func() { got = y.tries[i].Step(y.mem) })
	if got != want || stop != wantStop {
		t.Fatalf("%v: Step of %d: %v, %v, not %v, %v", picks, i, got, stop, want, wantStop)
	}
	y.check(t, picks)
}

func (y *yard) doLeave(t *testing.T, picks []int, i int) {
	t.Helper()
	wantStop := y.leave(i)
	if stop, _ := halt.Guard(func() { y.tries[i].Leave(y.mem) }); stop != wantStop {
		t.Fatalf("%v: Leave of %d: %v, not %v", picks, i, stop, wantStop)
	}
	y.check(t, picks)
}

// goOn does what somebody who wants the lock once does next.
func (y *yard) goOn(t *testing.T, picks []int, i int) {
	t.Helper()
	switch y.tries[i].At() {
	case ticket.Holds:
		y.doLeave(t, picks, i)
	case ticket.Done:
	default:
		y.doStep(t, picks, i)
	}
}

// finish steps all in turn: three rounds for each one that stands in line are enough, as nobody waits for others.
func (y *yard) finish(t *testing.T, picks []int) {
	t.Helper()
	for range 3 * len(y.tries) {
		for i := range y.tries {
			y.goOn(t, picks, i)
		}
	}
	for i, x := range y.tries {
		if x.At() != ticket.Done {
			t.Fatalf("%v: try %d is not Done, but %d", picks, i, x.At())
		}
	}
	for a, q := range y.queues {
		if y.mem.Load(a) != q.next || y.mem.Load(a+1) != q.next {
			t.Fatalf("%v: the lock at %d: %d, %d, not %d", picks, a, y.mem.Load(a), y.mem.Load(a+1), q.next)
		}
	}
}

// orders calls f with all lists of n numbers below base.
func orders(base, n int, f func(picks []int)) {
	picks := make([]int, n)
	for {
		f(picks)
		i := 0
		for i < n && picks[i] == base-1 {
			picks[i] = 0
			i++
		}
		if i == n {
			return
		}
		picks[i]++
	}
}

// allOrders lets the tries go on in all orders of n picks, then to their end.
func allOrders(t *testing.T, size, first, n int, locks ...int) {
	t.Helper()
	orders(len(locks), n, func(picks []int) {
		y := newYard(size, first, locks)
		for _, i := range picks {
			y.goOn(t, picks, i)
		}
		y.finish(t, picks)
	})
}

func TestP5_4OneLockInAllOrders(t *testing.T) {
	allOrders(t, 2, 0, 5, 0)
	allOrders(t, 2, 0, 11, 0, 0)
	allOrders(t, 2, 0, 9, 0, 0, 0)
	allOrders(t, 2, 0, 7, 0, 0, 0, 0)
}

func TestP5_4TwoLocksInAllOrders(t *testing.T) {
	allOrders(t, 4, 0, 9, 0, 2, 2)
	allOrders(t, 5, 3, 7, 3, 0, 3, 0)
}

// Tickets go round with their words, and the line goes on.
func TestP5_4TicketsThatGoRound(t *testing.T) {
	for _, first := range []int{-2, -1, 1 << 32, math.MaxInt - 1, math.MaxInt, math.MinInt} {
		allOrders(t, 2, first, 6, 0, 0, 0)
	}
}

// Each pick is a Step or a Leave, whether it may be done or stops: a stop lets nobody ahead.
func TestP5_4WrongCallsInAllOrders(t *testing.T) {
	orders(4, 8, func(picks []int) {
		y := newYard(2, 0, []int{0, 0})
		for _, p := range picks {
			if p%2 == 0 {
				y.doStep(t, picks, p/2)
			} else {
				y.doLeave(t, picks, p/2)
			}
		}
		y.finish(t, picks)
	})
}

// Whoever drew a later ticket, or none, keeps nobody waiting, however often it steps or doesn't.
func TestP5_4WaitsForLowerTicketsAlone(t *testing.T) {
	const tries = 20
	for ahead := range tries {
		y := newYard(2, 0, make([]int, tries))
		for i := range tries - 1 {
			y.doStep(t, nil, i)
		}
		for i := range ahead {
			y.doStep(t, nil, i)
			y.doLeave(t, nil, i)
		}
		for i := tries - 2; i > ahead; i-- {
			y.doStep(t, nil, i)
		}
		y.doStep(t, nil, ahead)
		if ahead < tries-1 && y.tries[ahead].At() != ticket.Holds {
			t.Errorf("try %d doesn't hold behind all that are lower", ahead)
		}
		y.finish(t, nil)
	}
}

func TestP5_4HoldByRisingTickets(t *testing.T) {
	const tries = 12
	y := newYard(2, 0, make([]int, tries))
	for i := range tries {
		y.doStep(t, nil, i*5%tries)
	}
	last := -1
	for range tries {
		for i, x := range y.tries {
			if x.At() != ticket.Waits {
				continue
			}
			y.doStep(t, nil, i)
			if x.At() != ticket.Holds {
				continue
			}
			if x.Ticket() != last+1 {
				t.Errorf("ticket %d holds behind %d", x.Ticket(), last)
			}
			last = x.Ticket()
			y.doLeave(t, nil, i)
		}
	}
	if last != tries-1 {
		t.Errorf("the last ticket that held is %d, not %d", last, tries-1)
	}
}

func TestP5_4LocksDoNotTouchEachOther(t *testing.T) {
	m := word.New(6)
	held := inState(m, 2, ticket.Holds)
	for _, a := range []int{0, 4} {
		for i := range 3 {
			x := inState(m, a, ticket.Done)
			wantTry(t, "a lock beside one that is held", x, ticket.Done, i)
		}
	}
	wantWords(t, "three locks", m, 3, 3, 1, 0, 3, 3)
	wantTry(t, "the one that is held", held, ticket.Holds, 0)
	wantLeave(t, "it leaves", held, m)
	wantWords(t, "three locks", m, 3, 3, 1, 1, 3, 3)
}

func TestP5_4MemoriesDoNotTouchEachOther(t *testing.T) {
	m, other := word.New(2), word.New(2)
	x, y := inState(m, 0, ticket.Holds), inState(other, 0, ticket.Holds)
	wantTry(t, "in the first memory", x, ticket.Holds, 0)
	wantTry(t, "in the other", y, ticket.Holds, 0)
	wantLeave(t, "leaves", x, m)
	wantWords(t, "the first memory", m, 1, 1)
	wantWords(t, "the other", other, 1, 0)
}

func TestRuns(t *testing.T) {
	m := word.New(2)
	x, y := ticket.New(0), ticket.New(0)
	wantStep(t, "x.Step", x, m, false, 1)
	wantStep(t, "y.Step", y, m, false, 1)
	wantStep(t, "y.Step", y, m, false, 1)
	wantStep(t, "x.Step", x, m, true, 1)
	wantLeave(t, "x.Leave", x, m)
	wantStep(t, "y.Step", y, m, true, 1)
}
