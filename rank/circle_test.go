package rank_test

import (
	"slices"
	"testing"

	"cloister/api"
	"cloister/halt"
	"cloister/rank"
)

const free = -1

// board is what is held, told from the ranks' side: who owns each.
type board struct {
	held   *rank.Held
	owners []int
	n      int
}

func newBoard(n, size int) *board {
	b := &board{held: rank.New(n), owners: make([]int, size), n: n}
	for r := range b.owners {
		b.owners[r] = free
	}
	return b
}

func (b *board) list(who int) []int {
	var l []int
	for r, owner := range b.owners {
		if owner == who {
			l = append(l, r)
		}
	}
	return l
}

// take does what a Take must do, and tells its stop.
func (b *board) take(who, r int) api.Stop {
	for own, owner := range b.owners {
		if owner == who && own >= r {
			return api.Stop{Why: api.WRank, At: r}
		}
	}
	if b.owners[r] != free {
		return api.Stop{Why: api.WHeld, At: r}
	}
	b.owners[r] = who
	return api.Stop{}
}

// let does what a Let must do.
func (b *board) let(who, r int) api.Stop {
	if b.owners[r] != who {
		return api.Stop{Why: api.WHeld, At: r}
	}
	b.owners[r] = free
	return api.Stop{}
}

// check holds all that can be asked against the board.
func (b *board) check(t *testing.T, picks []int) {
	t.Helper()
	for who := range b.n {
		if got, want := b.held.List(who), b.list(who); !slices.Equal(got, want) {
			t.Fatalf("%v: List(%d): %v, not %v", picks, who, got, want)
		}
	}
	for r, owner := range b.owners {
		if got := b.held.Owner(r); got != owner {
			t.Fatalf("%v: Owner(%d): %d, not %d", picks, r, got, owner)
		}
		for who := range b.n {
			if b.held.Holds(who, r) != (owner == who) {
				t.Fatalf("%v: Holds(%d, %d): %v", picks, who, r, owner != who)
			}
		}
	}
}

// pick does one call: which one, by whom, of which rank, all told by one number.
func (b *board) pick(t *testing.T, picks []int, p int) {
	t.Helper()
	who, r := p/2%b.n, p/2/b.n
	want, do := api.Stop{}, b.held.Take
	if p%2 == 0 {
		want = b.take(who, r)
	} else {
		want, do = b.let(who, r), b.held.Let
	}
	if stop, _ := halt.Guard(func() { do(who, r) }); stop != want {
		t.Fatalf("%v: call %d by %d of %d: %v, not %v", picks, p%2, who, r, stop, want)
	}
	b.check(t, picks)
}

// orders calls f with all lists of n numbers below base.
func orders(base, n int, f func(picks []int)) {
	picks := make([]int, n)
	for {
		f(picks)
		i := 0
		for i < n && picks[i] == base-1 {
			picks[i] = 0
			i++
		}
		if i == n {
			return
		}
		picks[i]++
	}
}

// allCalls does all calls of n with size ranks, those that stop too, in all orders.
func allCalls(t *testing.T, n, size, length int) {
	t.Helper()
	orders(2*n*size, length, func(picks []int) {
		b := newBoard(n, size)
		for _, p := range picks {
			b.pick(t, picks, p)
		}
	})
}

func TestP6_2AllCallsInAllOrders(t *testing.T) {
	allCalls(t, 1, 2, 7)
	allCalls(t, 1, 3, 6)
	allCalls(t, 2, 2, 5)
	allCalls(t, 2, 3, 4)
	allCalls(t, 3, 3, 3)
}

// holding makes one in which each rank has the owner that is named; n is nobody.
func holding(n int, owners []int) *rank.Held {
	x := rank.New(n)
	for r, who := range owners {
		if who < n {
			x.Take(who, r)
		}
	}
	return x
}

// waitsFor are those for whom one can wait: they hold what it may take but for them.
func waitsFor(x *rank.Held, who, size int) []int {
	var l []int
	for r := range size {
		if stop, _ := halt.Guard(func() { x.Take(who, r) }); stop.Why == api.WHeld {
			l = append(l, x.Owner(r))
		} else if stop == (api.Stop{}) {
			x.Let(who, r)
		}
	}
	return l
}

// reaches tells whether one can come from a to b by one wait or more, at most steps of them.
func reaches(waits [][]int, a, b, steps int) bool {
	if steps == 0 {
		return false
	}
	for _, next := range waits[a] {
		if next == b || reaches(waits, next, b, steps-1) {
			return true
		}
	}
	return false
}

func noCircle(t *testing.T, n int, owners []int) {
	t.Helper()
	x := holding(n, owners)
	waits := make([][]int, n)
	for who := range waits {
		waits[who] = waitsFor(x, who, len(owners))
	}
	for who := range waits {
		if reaches(waits, who, who, n) {
			t.Fatalf("owners %v: %d waits for itself: %v", owners, who, waits)
		}
	}
}

// In whatever way ranks are held, and whatever each one waits for that it might wait for.
func TestP6_4NobodyWaitsForItself(t *testing.T) {
	for _, c := range []struct{ n, size int }{{1, 4}, {2, 6}, {3, 5}, {4, 5}} {
		orders(c.n+1, c.size, func(owners []int) { noCircle(t, c.n, owners) })
	}
}

// wish is what somebody takes, in this order; then it lets all go, the first one first.
type wish []int

// goOn does the next call of one who did done of them, and tells whether it could: one who waits tries again.
func goOn(t *testing.T, x *rank.Held, who int, w wish, done int) bool {
	t.Helper()
	if done == 2*len(w) {
		return false
	}
	if done >= len(w) {
		x.Let(who, w[done-len(w)])
		return true
	}
	stop, stopped := halt.Guard(func() { x.Take(who, w[done]) })
	if stopped && (stop != api.Stop{Why: api.WHeld, At: w[done]}) {
		t.Fatalf("%d takes %d of %v: %v", who, done, w, stop)
	}
	return !stopped
}

// at makes one in which each did so many of its calls; what they hold doesn't hang on the order of these.
func at(wishes []wish, done [3]int) *rank.Held {
	x := rank.New(len(wishes))
	for who, w := range wishes {
		for i := max(0, done[who]-len(w)); i < min(done[who], len(w)); i++ {
			x.Take(who, w[i])
		}
	}
	return x
}

// allEnd goes through all that can come of the wishes: somebody can always go on, till all did all.
func allEnd(t *testing.T, wishes []wish) {
	t.Helper()
	seen := map[[3]int]bool{{}: true}
	todo := [][3]int{{}}
	for len(todo) > 0 {
		done := todo[0]
		todo = todo[1:]
		moves, ended := 0, 0
		for who, w := range wishes {
			if done[who] == 2*len(w) {
				ended++
			}
			if !goOn(t, at(wishes, done), who, w, done[who]) {
				continue
			}
			moves++
			next := done
			next[who]++
			if !seen[next] {
				seen[next] = true
				todo = append(todo, next)
			}
		}
		if moves == 0 && ended != len(wishes) {
			t.Fatalf("wishes %v: all wait, at %v", wishes, done)
		}
	}
}

// wishOf is the ranks of a set's bits, rising.
func wishOf(set int) wish {
	var w wish
	for r := range 4 {
		if set>>r&1 == 1 {
			w = append(w, r)
		}
	}
	return w
}

func TestP6_4AllComeToTheirEnd(t *testing.T) {
	const sets = 1 << 4
	for a := range sets {
		for b := a; b < sets; b++ {
			for c := b; c < sets; c++ {
				allEnd(t, []wish{wishOf(a), wishOf(b), wishOf(c)})
			}
		}
	}
}

// The two that would make a circle: the one who would take the lower rank is stopped, and doesn't wait.
func TestP6_4TheOneBelowIsStopped(t *testing.T) {
	x := rank.New(2)
	x.Take(0, 1)
	x.Take(1, 2)
	wantStop(t, "it may wait", api.WHeld, 2, func() { x.Take(0, 2) })
	wantStop(t, "it may not", api.WRank, 1, func() { x.Take(1, 1) })
	x.Let(1, 2)
	x.Take(0, 2)
	wantLists(t, "behind them", x, []int{1, 2}, nil)
}
