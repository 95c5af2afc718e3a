package ticket_test

import (
	"math"
	"slices"
	"testing"

	"cloister/api"
	"cloister/halt"
	"cloister/ticket"
	"cloister/word"
)

func wantStop(t *testing.T, what string, why, at int, f func()) {
	t.Helper()
	want := api.Stop{Why: why, At: at}
	if stop, stopped := halt.Guard(f); !stopped || stop != want {
		t.Errorf("%s: %v, %v, not %v, true", what, stop, stopped, want)
	}
}

func wantTry(t *testing.T, what string, x *ticket.Try, at, number int) {
	t.Helper()
	if x.At() != at || x.Ticket() != number {
		t.Errorf("%s: At %d, Ticket %d, not %d, %d", what, x.At(), x.Ticket(), at, number)
	}
}

func wantCount(t *testing.T, what string, m *word.Mem, count int) {
	t.Helper()
	if m.Count() != count {
		t.Errorf("%s: %d accesses, not %d", what, m.Count(), count)
	}
}

func wantStep(t *testing.T, what string, x *ticket.Try, m *word.Mem, holds bool, accesses int) {
	t.Helper()
	count := m.Count()
	if got := x.Step(m); got != holds {
		t.Errorf("%s: %v, not %v", what, got, holds)
	}
	wantCount(t, what, m, count+accesses)
}

func wantLeave(t *testing.T, what string, x *ticket.Try, m *word.Mem) {
	t.Helper()
	count := m.Count()
	x.Leave(m)
	wantCount(t, what, m, count+1)
}

// words are all that a memory has; to ask it costs one access a word.
func words(m *word.Mem) []int {
	l := make([]int, m.Len())
	for a := range l {
		l[a] = m.Load(a)
	}
	return l
}

func wantWords(t *testing.T, what string, m *word.Mem, want ...int) {
	t.Helper()
	if got := words(m); !slices.Equal(got, want) {
		t.Errorf("%s: words %v, not %v", what, got, want)
	}
}

func filled(l ...int) *word.Mem {
	m := word.New(len(l))
	for a, v := range l {
		m.Store(a, v)
	}
	return m
}

// edges are numbers at which a word, a ticket or a place may go wrong.
func edges() []int {
	return []int{
		0, 1, -1, 2, -2, 7, 255, 256, 1<<31 - 1, 1 << 31, -1 << 31, 1 << 32, 1<<32 + 1, 1<<53 + 1,
		math.MaxInt - 1, math.MaxInt, math.MinInt, math.MinInt + 1,
	}
}

// outside are no words of a memory of n.
func outside(n int) []int {
	return []int{n, n + 1, n + 9, 1 << 20, 1 << 32, 1<<32 + n/2, math.MaxInt - 1, math.MaxInt, -1, -2, -n - 1, n/2 - 1<<32, math.MinInt, math.MinInt + 1}
}

// inState brings a new try of the lock at a, of which nobody has a ticket, into a state.
func inState(m *word.Mem, a, state int) *ticket.Try {
	x := ticket.New(a)
	if state >= ticket.Waits {
		x.Step(m)
	}
	if state >= ticket.Holds {
		x.Step(m)
	}
	if state == ticket.Done {
		x.Leave(m)
	}
	return x
}

// ticketIn is the ticket of a try that inState brought into a state, if the next one was 0.
func ticketIn(state int) int {
	if state == ticket.Fresh {
		return -1
	}
	return 0
}

func TestP5_1StatesAreNumbers(t *testing.T) {
	if l := []int{ticket.Fresh, ticket.Waits, ticket.Holds, ticket.Done}; !slices.Equal(l, []int{0, 1, 2, 3}) {
		t.Errorf("states: %v", l)
	}
}

func TestP5_1NewIsFresh(t *testing.T) {
	for _, a := range edges() {
		x := ticket.New(a)
		for range 2 {
			wantTry(t, "a new try", x, ticket.Fresh, -1)
		}
	}
}

func TestP5_1FreshWhileOthersStep(t *testing.T) {
	m := word.New(2)
	x := ticket.New(0)
	for range 3 {
		inState(m, 0, ticket.Done)
		wantTry(t, "Fresh beside others", x, ticket.Fresh, -1)
	}
	wantStep(t, "its first Step", x, m, false, 1)
	wantTry(t, "behind it", x, ticket.Waits, 3)
}

func TestP5_1TicketStays(t *testing.T) {
	for _, v := range edges() {
		m := filled(v, v)
		x := ticket.New(0)
		x.Step(m)
		wantTry(t, "drawn", x, ticket.Waits, v)
		x.Step(m)
		wantTry(t, "held", x, ticket.Holds, v)
		x.Leave(m)
		wantTry(t, "left", x, ticket.Done, v)
	}
}

func TestP5_1ToAskIsNoAccess(t *testing.T) {
	for state := ticket.Fresh; state <= ticket.Done; state++ {
		m := word.New(2)
		x := inState(m, 0, state)
		count := m.Count()
		for range 3 {
			wantTry(t, "asked", x, state, ticketIn(state))
		}
		wantCount(t, "asked", m, count)
	}
}

// The words of the lock, and those around it, behind each access; in the last two words of the memory, too.
func TestP5_1LockIsTwoWords(t *testing.T) {
	for a := range 4 {
		m := filled(50, 60, 70, 80, 90)
		m.Store(a, 5)
		m.Store(a+1, 5)
		want := words(m)
		x := ticket.New(a)
		wantWords(t, "Fresh", m, want...)
		x.Step(m)
		want[a] = 6
		wantWords(t, "behind the Step of one that is Fresh", m, want...)
		x.Step(m)
		wantTry(t, "stepped", x, ticket.Holds, 5)
		wantWords(t, "behind the Step of one that Waits", m, want...)
		x.Step(m)
		wantWords(t, "behind the Step of one that Holds", m, want...)
		x.Leave(m)
		want[a+1] = 6
		wantWords(t, "behind Leave", m, want...)
	}
}

func TestP5_1LastTwoWords(t *testing.T) {
	for _, n := range []int{2, 3, 4, 64, api.MaxWords} {
		m := word.New(n)
		x, y := ticket.New(n-2), ticket.New(n-2)
		wantStep(t, "draws", x, m, false, 1)
		wantStep(t, "the other draws", y, m, false, 1)
		wantStep(t, "holds", x, m, true, 1)
		wantStep(t, "the other waits", y, m, false, 1)
		wantLeave(t, "leaves", x, m)
		wantStep(t, "the other holds", y, m, true, 1)
		want := make([]int, n)
		want[n-2], want[n-1] = 2, 1
		wantWords(t, "the last two words", m, want...)
	}
}

func TestP5_1TriesAreTheirOwn(t *testing.T) {
	m := word.New(2)
	x, y := ticket.New(0), ticket.New(0)
	x.Step(m)
	x.Step(m)
	wantTry(t, "the other", y, ticket.Fresh, -1)
	y.Step(m)
	wantTry(t, "the first", x, ticket.Holds, 0)
	wantTry(t, "the other", y, ticket.Waits, 1)
}

func TestP5_2OneTryAlone(t *testing.T) {
	m := word.New(2)
	for i := range 5 {
		x := ticket.New(0)
		wantStep(t, "Fresh, although it is its turn", x, m, false, 1)
		wantTry(t, "behind its first Step", x, ticket.Waits, i)
		wantStep(t, "Waits", x, m, true, 1)
		wantTry(t, "behind its second Step", x, ticket.Holds, i)
		wantLeave(t, "Leave", x, m)
		wantTry(t, "behind Leave", x, ticket.Done, i)
	}
}

func TestP5_2TicketIsWhatTheWordHad(t *testing.T) {
	for _, v := range edges() {
		for _, turn := range edges() {
			m := filled(v, turn)
			x := ticket.New(0)
			wantStep(t, "Fresh", x, m, false, 1)
			wantTry(t, "its ticket", x, ticket.Waits, v)
			wantWords(t, "one more", m, v+1, turn)
		}
	}
}

// A turn that is above the ticket isn't the ticket's.
func TestP5_2HoldsAtItsTicketAlone(t *testing.T) {
	for _, v := range edges() {
		for _, turn := range edges() {
			m := filled(v, turn)
			x := ticket.New(0)
			x.Step(m)
			state := ticket.Waits
			if turn == v {
				state = ticket.Holds
			}
			wantStep(t, "Waits", x, m, turn == v, 1)
			wantTry(t, "behind it", x, state, v)
			wantWords(t, "untouched", m, v+1, turn)
		}
	}
}

func TestP5_2WaitsAsLongAsItIsNotItsTurn(t *testing.T) {
	m := filled(5, 2)
	x := ticket.New(0)
	x.Step(m)
	for turn := 2; turn < 5; turn++ {
		m.Store(1, turn)
		for range 3 {
			wantStep(t, "ahead of its turn", x, m, false, 1)
			wantTry(t, "ahead of its turn", x, ticket.Waits, 5)
		}
	}
	m.Store(1, 5)
	wantStep(t, "its turn", x, m, true, 1)
}

// It asks no word any more, whatever the words have by then, and whatever memory is handed in.
func TestP5_2HoldsWithoutAnAccess(t *testing.T) {
	m, none := word.New(4), word.New(0)
	x := inState(m, 2, ticket.Holds)
	for _, v := range edges() {
		m.Store(2, v)
		m.Store(3, v)
		wantStep(t, "Holds", x, m, true, 0)
		wantStep(t, "Holds, in a memory of no words", x, none, true, 0)
		wantTry(t, "behind it", x, ticket.Holds, 0)
		wantWords(t, "untouched", m, 0, 0, v, v)
	}
}

func TestP5_2StepOfOneThatIsDone(t *testing.T) {
	for a := range 5 {
		m := word.New(6)
		x := inState(m, a, ticket.Done)
		count := m.Count()
		for range 3 {
			wantStop(t, "Step of one that is Done", api.WState, a, func() { x.Step(m) })
			wantStop(t, "the same, in a memory of no words", api.WState, a, func() { x.Step(word.New(0)) })
			wantTry(t, "behind the stop", x, ticket.Done, 0)
		}
		wantCount(t, "behind the stop", m, count)
		want := make([]int, 6)
		want[a], want[a+1] = 1, 1
		wantWords(t, "behind the stop", m, want...)
	}
}

func TestP5_2NoSuchWord(t *testing.T) {
	for _, n := range []int{0, 1, 2, 4, api.MaxWords} {
		m := word.New(n)
		for _, a := range outside(n) {
			x := ticket.New(a)
			for range 2 {
				wantStop(t, "Step", api.WBus, a, func() { x.Step(m) })
				wantTry(t, "behind the stop", x, ticket.Fresh, -1)
			}
			wantStop(t, "Leave behind it", api.WHeld, a, func() { x.Leave(m) })
			wantTry(t, "behind the stop", x, ticket.Fresh, -1)
		}
		wantCount(t, "behind stops", m, 0)
		wantWords(t, "behind stops", m, make([]int, n)...)
	}
}

// A stop spoils nothing: the try draws its ticket in a memory that has the word.
func TestP5_2GoesOnBehindAStop(t *testing.T) {
	m := word.New(4)
	x := ticket.New(2)
	wantStop(t, "Step", api.WBus, 2, func() { x.Step(word.New(2)) })
	wantStep(t, "draws", x, m, false, 1)
	wantStop(t, "Step", api.WBus, 3, func() { x.Step(word.New(3)) })
	wantTry(t, "behind the stop", x, ticket.Waits, 0)
	wantStep(t, "holds", x, m, true, 1)
	wantLeave(t, "leaves", x, m)
}

func TestP5_2SecondWordIsNotThere(t *testing.T) {
	for _, n := range []int{1, 2, 5, api.MaxWords} {
		m := word.New(n)
		x := ticket.New(n - 1)
		wantStep(t, "draws", x, m, false, 1)
		for range 2 {
			wantStop(t, "Step of one that Waits", api.WBus, n, func() { x.Step(m) })
			wantTry(t, "behind the stop", x, ticket.Waits, 0)
		}
		wantStop(t, "Leave behind it", api.WHeld, n-1, func() { x.Leave(m) })
		wantCount(t, "behind stops", m, 1)
		want := make([]int, n)
		want[n-1] = 1
		wantWords(t, "behind stops", m, want...)
	}
}

func TestP5_3Leave(t *testing.T) {
	for _, v := range edges() {
		m := filled(v, v)
		x := inState(m, 0, ticket.Holds)
		wantLeave(t, "Leave", x, m)
		wantTry(t, "behind Leave", x, ticket.Done, v)
		wantWords(t, "behind Leave", m, v+1, v+1)
	}
}

// It adds to what the word has, and doesn't reckon it from its ticket.
func TestP5_3LeaveAdds(t *testing.T) {
	for _, v := range edges() {
		m := word.New(2)
		x := inState(m, 0, ticket.Holds)
		m.Store(0, 77)
		m.Store(1, v)
		wantLeave(t, "Leave", x, m)
		wantWords(t, "behind Leave", m, 77, v+1)
	}
}

func TestP5_3LeaveOfOneThatDoesNotHold(t *testing.T) {
	for _, state := range []int{ticket.Fresh, ticket.Waits, ticket.Done} {
		for a := range 5 {
			m := word.New(6)
			x := inState(m, a, state)
			count, had := m.Count(), words(m)
			for range 3 {
				wantStop(t, "Leave", api.WHeld, a, func() { x.Leave(m) })
				wantStop(t, "Leave, in a memory of no words", api.WHeld, a, func() { x.Leave(word.New(0)) })
				wantTry(t, "behind the stop", x, state, ticketIn(state))
			}
			wantCount(t, "behind the stop", m, count+len(had))
			wantWords(t, "behind the stop", m, had...)
		}
	}
}

// Its ticket's turn came, but it didn't find that out yet.
func TestP5_3LeaveAheadOfTheStepThatHolds(t *testing.T) {
	m := word.New(2)
	x := inState(m, 0, ticket.Waits)
	wantStop(t, "Leave", api.WHeld, 0, func() { x.Leave(m) })
	wantStep(t, "Waits still", x, m, true, 1)
	wantLeave(t, "Leave", x, m)
}

func TestP5_3LeaveOfNoWord(t *testing.T) {
	m := word.New(4)
	x := inState(m, 2, ticket.Holds)
	for n := range 4 {
		small := word.New(n)
		wantStop(t, "Leave", api.WBus, 3, func() { x.Leave(small) })
		wantTry(t, "behind the stop", x, ticket.Holds, 0)
		wantCount(t, "behind the stop", small, 0)
	}
	wantStep(t, "holds still", x, m, true, 0)
	wantLeave(t, "Leave", x, m)
	wantWords(t, "behind Leave", m, 0, 0, 1, 1)
}

func TestP5_3PlacesOfNoLock(t *testing.T) {
	for _, a := range edges() {
		m := word.New(0)
		x := ticket.New(a)
		wantStop(t, "Leave", api.WHeld, a, func() { x.Leave(m) })
		wantStop(t, "Step", api.WBus, a, func() { x.Step(m) })
	}
}
