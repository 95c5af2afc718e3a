package rank_test

import (
	"math"
	"slices"
	"testing"

	"cloister/api"
	"cloister/halt"
	"cloister/rank"
)

const most = 64

func wantStop(t *testing.T, what string, why, at int, f func()) {
	t.Helper()
	want := api.Stop{Why: why, At: at}
	if stop, stopped := halt.Guard(f); !stopped || stop != want {
		t.Errorf("%s: %v, %v, not %v, true", what, stop, stopped, want)
	}
}

func wantList(t *testing.T, what string, x *rank.Held, who int, want ...int) {
	t.Helper()
	if got := x.List(who); !slices.Equal(got, want) {
		t.Errorf("%s: List(%d): %v, not %v", what, who, got, want)
	}
	for _, r := range want {
		if !x.Holds(who, r) {
			t.Errorf("%s: %d doesn't hold %d", what, who, r)
		}
		wantOwner(t, what, x, r, who)
	}
}

func wantOwner(t *testing.T, what string, x *rank.Held, r, who int) {
	t.Helper()
	if got := x.Owner(r); got != who {
		t.Errorf("%s: Owner(%d): %d, not %d", what, r, got, who)
	}
}

// wantLists wants what each one holds, from 0 on.
func wantLists(t *testing.T, what string, x *rank.Held, want ...[]int) {
	t.Helper()
	for who, l := range want {
		wantList(t, what, x, who, l...)
	}
}

func takes(x *rank.Held, who int, l ...int) {
	for _, r := range l {
		x.Take(who, r)
	}
}

// ranks are numbers at which a rank may go wrong, rising.
func ranks() []int {
	return []int{
		0, 1, 2, api.MaxRank, api.MaxRank + 1, 63, 64, 65, 127, 128, 255, 256, 4095, 4096, 1<<16 - 1, 1 << 16,
		1<<31 - 1, 1 << 31, 1 << 32, 1<<32 + 1, 1 << 53, 1<<53 + 1, math.MaxInt - 1, math.MaxInt,
	}
}

// noRanks are below 0.
func noRanks() []int {
	return []int{-1, -2, -3, -64, -256, -1 << 31, -1 << 32, 3 - 1<<32, math.MinInt + 1, math.MinInt}
}

// outside are none of n.
func outside(n int) []int {
	return []int{
		-1, -2, -n, -n - 1, n, n + 1, 2 * n, 1<<8 | n/2, 1 << 16, 1 << 32, 1<<32 + n/2, n/2 - 1<<32,
		math.MaxInt, math.MinInt, math.MinInt + 1,
	}
}

func TestP6_1NewHoldsNothing(t *testing.T) {
	for n := 1; n <= most; n++ {
		x := rank.New(n)
		for who := range n {
			wantList(t, "a new one", x, who)
			for _, r := range append(ranks(), noRanks()...) {
				if x.Holds(who, r) {
					t.Errorf("New(%d): %d holds %d", n, who, r)
				}
			}
		}
		for _, r := range ranks() {
			wantOwner(t, "a new one", x, r, -1)
		}
		wantStop(t, "the next", api.WHart, n, func() { x.List(n) })
	}
}

func TestP6_1NewOfWrongNumbers(t *testing.T) {
	for _, n := range []int{
		0, -1, -2, -64, 65, 66, 128, 1<<8 + 1, 1<<16 + 1, 1<<32 + 1, 1 - 1<<32, math.MaxInt, math.MinInt, math.MinInt + 1,
	} {
		x := rank.New(1)
		x.Take(0, 7)
		wantStop(t, "New", api.WHart, n, func() { x = rank.New(n) })
		wantList(t, "what was there", x, 0, 7)
	}
}

func TestP6_1NewOfOne(t *testing.T) {
	x := rank.New(1)
	takes(x, 0, 0, 1, 9)
	wantList(t, "the only one", x, 0, 0, 1, 9)
	wantStop(t, "Take of another", api.WHart, 1, func() { x.Take(1, 10) })
	x.Let(0, 1)
	wantList(t, "the only one", x, 0, 0, 9)
}

func TestP6_1NewOf64(t *testing.T) {
	x := rank.New(most)
	for who := most - 1; who >= 0; who-- {
		takes(x, who, who, who+most)
	}
	for who := range most {
		wantList(t, "one of 64", x, who, who, who+most)
	}
	for who := range most {
		x.Let(who, who)
		wantOwner(t, "let go", x, who, -1)
		wantList(t, "one of 64", x, who, who+most)
	}
}

func TestP6_1RanksAreAnyFrom0On(t *testing.T) {
	for _, r := range ranks() {
		x := rank.New(2)
		x.Take(1, r)
		wantLists(t, "a rank alone", x, nil, []int{r})
		x.Let(1, r)
		wantLists(t, "let go", x, nil, nil)
		wantOwner(t, "let go", x, r, -1)
	}
	x := rank.New(2)
	takes(x, 0, ranks()...)
	wantLists(t, "all of them", x, ranks(), nil)
}

func TestP6_1OnesThatWereMadeAreTheirOwn(t *testing.T) {
	x, y := rank.New(2), rank.New(2)
	takes(x, 0, 3, 5)
	takes(y, 1, 3, 5)
	wantLists(t, "the first", x, []int{3, 5}, nil)
	wantLists(t, "the other", y, nil, []int{3, 5})
	y.Let(1, 3)
	wantLists(t, "the first", x, []int{3, 5}, nil)
}

// calls are all calls that name somebody, with a rank.
func calls(x *rank.Held, who, r int) map[string]func() {
	return map[string]func(){
		"Take":  func() { x.Take(who, r) },
		"Let":   func() { x.Let(who, r) },
		"Holds": func() { x.Holds(who, r) },
		"List":  func() { x.List(who) },
	}
}

// Whoever isn't there is told so ahead of all that is wrong with the rank.
func TestNoSuchOne(t *testing.T) {
	for _, n := range []int{1, 2, 3, 8, 63, most} {
		x := rank.New(n)
		takes(x, n-1, 4, 6)
		for _, who := range outside(n) {
			for _, r := range []int{0, 3, 4, 5, 6, 7, -1, math.MaxInt, math.MinInt} {
				for name, f := range calls(x, who, r) {
					wantStop(t, name, api.WHart, who, f)
				}
			}
		}
		for who := range n - 1 {
			wantList(t, "behind calls of none", x, who)
		}
		wantList(t, "behind calls of none", x, n-1, 4, 6)
		for _, r := range []int{0, 3, 5, 7, -1, math.MaxInt, math.MinInt} {
			wantOwner(t, "behind calls of none", x, r, -1)
		}
	}
}

func TestP6_2TakeAndLet(t *testing.T) {
	x := rank.New(3)
	for who := range 3 {
		for range 3 {
			x.Take(who, 4)
			wantList(t, "taken", x, who, 4)
			x.Let(who, 4)
			wantList(t, "let go", x, who)
			wantOwner(t, "let go", x, 4, -1)
		}
	}
}

// Just below, at and just above the highest that one holds.
func TestP6_2TakeAroundTheHighest(t *testing.T) {
	for _, r := range ranks()[1:] {
		x := rank.New(2)
		takes(x, 0, 0, r)
		wantStop(t, "below", api.WRank, r-1, func() { x.Take(0, r-1) })
		wantStop(t, "at", api.WRank, r, func() { x.Take(0, r) })
		wantStop(t, "at the lower one", api.WRank, 0, func() { x.Take(0, 0) })
		wantLists(t, "behind stops", x, []int{0, r}, nil)
		if r < math.MaxInt {
			x.Take(0, r+1)
			wantLists(t, "above", x, []int{0, r, r + 1}, nil)
		}
	}
}

func TestP6_2TakeBetweenTwo(t *testing.T) {
	x := rank.New(2)
	takes(x, 0, 3, 9)
	for r := range 10 {
		wantStop(t, "not above all", api.WRank, r, func() { x.Take(0, r) })
		wantLists(t, "behind the stop", x, []int{3, 9}, nil)
	}
}

func TestP6_2TakeBelow0(t *testing.T) {
	for _, r := range noRanks() {
		x := rank.New(2)
		wantStop(t, "by one who holds nothing", api.WRank, r, func() { x.Take(0, r) })
		x.Take(1, 0)
		wantStop(t, "by one who holds nothing", api.WRank, r, func() { x.Take(0, r) })
		wantStop(t, "by one who holds 0", api.WRank, r, func() { x.Take(1, r) })
		wantLists(t, "behind stops", x, nil, []int{0})
		wantOwner(t, "behind stops", x, r, -1)
		x.Take(0, 1)
		wantLists(t, "a Take behind them", x, []int{1}, []int{0})
	}
}

func TestP6_2TakeOf0(t *testing.T) {
	x := rank.New(2)
	x.Take(0, 0)
	wantLists(t, "taken", x, []int{0}, nil)
	wantStop(t, "again", api.WRank, 0, func() { x.Take(0, 0) })
	wantStop(t, "by another", api.WHeld, 0, func() { x.Take(1, 0) })
	x.Take(1, 1)
	wantStop(t, "by another who is above it", api.WRank, 0, func() { x.Take(1, 0) })
	x.Let(0, 0)
	wantStop(t, "free, but not above", api.WRank, 0, func() { x.Take(1, 0) })
	x.Let(1, 1)
	x.Take(1, 0)
	wantLists(t, "by the other", x, nil, []int{0})
}

// The order is asked ahead of the owner: a rank of another one, above and not above one's own.
func TestP6_2TakeOfWhatAnotherHolds(t *testing.T) {
	x := rank.New(3)
	takes(x, 0, 2, 6, 8)
	x.Take(1, 5)
	wantStop(t, "above its own", api.WHeld, 6, func() { x.Take(1, 6) })
	wantStop(t, "above its own", api.WHeld, 8, func() { x.Take(1, 8) })
	wantStop(t, "not above its own", api.WRank, 2, func() { x.Take(1, 2) })
	for _, r := range []int{2, 5, 6, 8} {
		wantStop(t, "by one who holds nothing", api.WHeld, r, func() { x.Take(2, r) })
	}
	wantLists(t, "behind stops", x, []int{2, 6, 8}, []int{5}, nil)
	x.Let(0, 6)
	x.Take(1, 6)
	wantLists(t, "let go by the one, had by the other", x, []int{2, 8}, []int{5, 6}, nil)
}

func TestP6_2RanksOfOthersDoNotCount(t *testing.T) {
	x := rank.New(3)
	x.Take(0, 100)
	takes(x, 1, 3, 50, 99)
	takes(x, 2, 0, 51, 101)
	wantLists(t, "each by its own order", x, []int{100}, []int{3, 50, 99}, []int{0, 51, 101})
}

// Above what it holds now, and not what it held.
func TestP6_2TakeBehindLet(t *testing.T) {
	x := rank.New(1)
	takes(x, 0, 3, 5, 9)
	x.Let(0, 9)
	wantStop(t, "below the highest", api.WRank, 4, func() { x.Take(0, 4) })
	x.Take(0, 6)
	wantList(t, "below what it held", x, 0, 3, 5, 6)
	x.Let(0, 3)
	wantStop(t, "what was let go, below the highest", api.WRank, 3, func() { x.Take(0, 3) })
	wantList(t, "behind the stop", x, 0, 5, 6)
	x.Let(0, 6)
	x.Take(0, 6)
	wantList(t, "let go and had again", x, 0, 5, 6)
	x.Let(0, 5)
	x.Let(0, 6)
	x.Take(0, 0)
	wantList(t, "from the beginning on", x, 0, 0)
}

// permutations calls f with all orders of l.
func permutations(l []int, f func([]int)) {
	var place func(k int)
	place = func(k int) {
		if k == len(l) {
			f(slices.Clone(l))
			return
		}
		for i := k; i < len(l); i++ {
			l[k], l[i] = l[i], l[k]
			place(k + 1)
			l[k], l[i] = l[i], l[k]
		}
	}
	place(0)
}

func TestP6_2LetInAllOrders(t *testing.T) {
	permutations([]int{0, 1, 4, 7, 8}, func(order []int) {
		x := rank.New(2)
		left := []int{0, 1, 4, 7, 8}
		takes(x, 0, left...)
		x.Take(1, 5)
		for _, r := range order {
			x.Let(0, r)
			i := slices.Index(left, r)
			left = slices.Delete(left, i, i+1)
			wantLists(t, "let go", x, left, []int{5})
			wantOwner(t, "let go", x, r, -1)
			wantStop(t, "Let again", api.WHeld, r, func() { x.Let(0, r) })
			wantLists(t, "behind the stop", x, left, []int{5})
		}
	})
}

func TestP6_2LetOfWhatItDoesNotHold(t *testing.T) {
	x := rank.New(3)
	takes(x, 0, 3, 5)
	x.Take(1, 4)
	held := [][]int{{3, 5}, {4}, nil}
	for who := range held {
		for _, r := range slices.Concat(ranks(), noRanks(), []int{3, 4, 5, 6}) {
			if slices.Contains(held[who], r) {
				continue
			}
			wantStop(t, "Let", api.WHeld, r, func() { x.Let(who, r) })
			wantLists(t, "behind the stop", x, held...)
		}
	}
	x.Take(0, 6)
	x.Let(1, 4)
	wantLists(t, "goes on", x, []int{3, 5, 6}, nil, nil)
}

func TestP6_2ManyRanks(t *testing.T) {
	const many = 3000
	x := rank.New(2)
	var even, odd []int
	for r := range many {
		x.Take(r%2, r)
		if r%2 == 0 {
			even = append(even, r)
		} else {
			odd = append(odd, r)
		}
	}
	wantLists(t, "all taken", x, even, odd)
	for _, r := range even {
		x.Let(0, r)
	}
	wantLists(t, "half let go", x, nil, odd)
	wantStop(t, "not above all", api.WRank, many-2, func() { x.Take(1, many-2) })
	takes(x, 0, even...)
	wantLists(t, "taken again", x, even, odd)
}

func TestP6_3Holds(t *testing.T) {
	x := rank.New(3)
	held := [][]int{{0, 7}, {3}, nil}
	takes(x, 0, 0, 7)
	takes(x, 1, 3)
	for who := range held {
		for _, r := range slices.Concat(ranks(), noRanks(), []int{3, 6, 7, 8}) {
			for range 2 {
				if want := slices.Contains(held[who], r); x.Holds(who, r) != want {
					t.Errorf("Holds(%d, %d): %v", who, r, !want)
				}
			}
		}
	}
	wantLists(t, "to ask changes nothing", x, held...)
}

func TestP6_3ListRises(t *testing.T) {
	x := rank.New(1)
	takes(x, 0, 1, 2, 5, 9)
	x.Let(0, 5)
	x.Let(0, 1)
	takes(x, 0, 10, 12)
	x.Let(0, 9)
	x.Take(0, 13)
	for range 2 {
		wantList(t, "rising", x, 0, 2, 10, 12, 13)
	}
}

func TestP6_3ListOfNothing(t *testing.T) {
	x := rank.New(2)
	x.Take(0, 3)
	if l := x.List(1); len(l) != 0 {
		t.Errorf("List of one who never held: %v", l)
	}
	x.Let(0, 3)
	if l := x.List(0); len(l) != 0 {
		t.Errorf("List of one who let all go: %v", l)
	}
}

// spoil writes over a list and its spare room.
func spoil(l []int) {
	l = l[:cap(l)]
	for i := range l {
		l[i] = 77 - i
	}
}

func TestP6_3ListIsItsReceivers(t *testing.T) {
	x := rank.New(2)
	takes(x, 0, 2, 4, 6)
	x.Take(1, 3)
	spoil(x.List(0))
	spoil(x.List(1))
	wantLists(t, "behind lists that were spoiled", x, []int{2, 4, 6}, []int{3})
	wantOwner(t, "behind lists that were spoiled", x, 77, -1)
	x.Take(0, 7)
	wantStop(t, "by what it holds", api.WRank, 5, func() { x.Take(0, 5) })
	wantLists(t, "taken behind that", x, []int{2, 4, 6, 7}, []int{3})
	first, second := x.List(0), x.List(0)
	spoil(first)
	if !slices.Equal(second, []int{2, 4, 6, 7}) {
		t.Errorf("two lists share memory: %v", second)
	}
}

// Spare room of what was let go is nobody's but the package's.
func TestP6_3ListBehindLetIsItsReceivers(t *testing.T) {
	x := rank.New(1)
	takes(x, 0, 2, 4, 6, 8)
	x.Let(0, 8)
	x.Let(0, 2)
	l := x.List(0)
	_ = append(l, 99)
	spoil(l)
	wantList(t, "behind a list that was spoiled", x, 0, 4, 6)
	x.Let(0, 4)
	x.Let(0, 6)
	_ = append(x.List(0), 99)
	wantList(t, "nothing", x, 0)
	takes(x, 0, 1, 2)
	wantList(t, "taken behind that", x, 0, 1, 2)
}

// What was handed out stays as it was, whatever is taken and let go behind it.
func TestP6_3ListStays(t *testing.T) {
	x := rank.New(1)
	takes(x, 0, 2, 4, 6)
	l := x.List(0)
	x.Let(0, 2)
	x.Take(0, 8)
	if !slices.Equal(l, []int{2, 4, 6}) {
		t.Errorf("a list that was handed out is %v now", l)
	}
}

func TestP6_3OwnerOfNobodys(t *testing.T) {
	x := rank.New(2)
	takes(x, 0, 3, 9)
	x.Take(1, 5)
	for _, r := range slices.Concat(noRanks(), []int{0, 2, 4, 6, 8, 10, 64, math.MaxInt}) {
		wantOwner(t, "nobody's", x, r, -1)
	}
}

func TestP6_3OwnerGoesOn(t *testing.T) {
	x := rank.New(most)
	for who := range most {
		x.Take(who, 9)
		wantOwner(t, "taken", x, 9, who)
		for other := range most {
			if x.Holds(other, 9) != (other == who) {
				t.Errorf("%d holds what is %d's, or the other way round", other, who)
			}
		}
		x.Let(who, 9)
		wantOwner(t, "let go", x, 9, -1)
	}
}

func TestRuns(t *testing.T) {
	x := rank.New(2)
	x.Take(0, 3)
	x.Take(0, 5)
	wantStop(t, "Take(0, 4)", api.WRank, 4, func() { x.Take(0, 4) })
	wantStop(t, "Take(1, 5)", api.WHeld, 5, func() { x.Take(1, 5) })
	x.Let(0, 3)
	wantList(t, "List(0)", x, 0, 5)
	wantOwner(t, "Owner(5)", x, 5, 0)
}
