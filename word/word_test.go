package word_test

import (
	"math"
	"testing"

	"cloister/api"
	"cloister/halt"
	"cloister/word"
)

func wantStop(t *testing.T, what string, at int, f func()) {
	t.Helper()
	want := api.Stop{Why: api.WBus, At: at}
	if stop, stopped := halt.Guard(f); !stopped || stop != want {
		t.Errorf("%s: %v, %v, not %v, true", what, stop, stopped, want)
	}
}

func want(t *testing.T, what string, got, want int) {
	t.Helper()
	if got != want {
		t.Errorf("%s: %d, not %d", what, got, want)
	}
}

// wantWords costs one access a word, which the caller reckons with.
func wantWords(t *testing.T, what string, m *word.Mem, words []int) {
	t.Helper()
	want(t, what+": Len", m.Len(), len(words))
	for a, v := range words {
		if got := m.Load(a); got != v {
			t.Errorf("%s: word %d has %d, not %d", what, a, got, v)
		}
	}
}

// edges are numbers at which a word or a size may go wrong.
func edges() []int {
	return []int{
		0, 1, -1, 2, -2, 1<<31 - 1, 1 << 31, -1 << 31, 1 << 32, 1<<32 + 1, -1<<32 + 1, 1 << 53, 1<<53 + 1,
		1 << 62, -1 << 62, math.MaxInt - 1, math.MaxInt, math.MinInt, math.MinInt + 1,
	}
}

// sizes are those that a memory may have: the edges of them, and some between.
func sizes() []int {
	return []int{0, 1, 2, 3, 4, 7, 64, 100, api.MaxWords - 1, api.MaxWords}
}

// outside are no words of a memory of n.
func outside(n int) []int {
	return []int{n, n + 1, n + 7, 1 << 20, 1 << 32, 1<<32 + n/2, math.MaxInt, -1, -2, -n - 1, -1 << 32, n/2 - 1<<32, math.MinInt, math.MinInt + 1}
}

// ways are all accesses of a word; what they tell is asked elsewhere.
func ways(m *word.Mem, a, v int) map[string]func() {
	return map[string]func(){
		"Load":  func() { m.Load(a) },
		"Store": func() { m.Store(a, v) },
		"Add":   func() { m.Add(a, v) },
		"Swap":  func() { m.Swap(a, v) },
	}
}

// numbers are as many words as are asked for, each unlike the others.
func numbers(n int) []int {
	l := make([]int, n)
	for i := range l {
		l[i] = (i + 1) * 1000003
	}
	return l
}

func filled(words []int) *word.Mem {
	m := word.New(len(words))
	for a, v := range words {
		m.Store(a, v)
	}
	return m
}

func TestP3_1NewIsAllZeros(t *testing.T) {
	for _, n := range sizes() {
		m := word.New(n)
		want(t, "Len of a new memory", m.Len(), n)
		want(t, "Count of a new memory", m.Count(), 0)
		wantWords(t, "a new memory", m, make([]int, n))
		want(t, "Count behind a Load of each word", m.Count(), n)
	}
}

func TestP3_1NewBehindOneThatIsFull(t *testing.T) {
	for _, n := range sizes() {
		filled(numbers(n))
		wantWords(t, "a new memory", word.New(n), make([]int, n))
	}
}

func TestP3_1NewOfWrongSizes(t *testing.T) {
	for _, n := range outside(api.MaxWords + 1) {
		m := word.New(1)
		wantStop(t, "New", n, func() { m = word.New(n) })
		want(t, "Len of what was there", m.Len(), 1)
	}
}

func TestP3_1LenStays(t *testing.T) {
	for _, n := range sizes() {
		m := filled(numbers(n))
		want(t, "Len of a full memory", m.Len(), n)
		wantStop(t, "Store behind the last word", n, func() { m.Store(n, 1) })
		want(t, "Len behind a stop", m.Len(), n)
	}
}

func TestP3_1CountIsOfAllWays(t *testing.T) {
	m := word.New(3)
	done := 0
	for range 5 {
		for a := range 3 {
			for way, f := range ways(m, a, 9) {
				f()
				done++
				want(t, "Count behind "+way, m.Count(), done)
			}
		}
	}
}

func TestP3_1CountIsOfAccessesAlone(t *testing.T) {
	m := word.New(2)
	m.Store(0, 1)
	for range 4 {
		m.Len()
		m.Count()
	}
	want(t, "Count behind Len and Count", m.Count(), 1)
}

func TestP3_1CountIsOneMemorysOwn(t *testing.T) {
	m, other := word.New(2), word.New(2)
	m.Store(0, 1)
	m.Load(0)
	other.Swap(1, 1)
	want(t, "Count of the first", m.Count(), 2)
	want(t, "Count of the other", other.Count(), 1)
	want(t, "Count of a third", word.New(2).Count(), 0)
}

func TestP3_2NoSuchWord(t *testing.T) {
	for _, n := range sizes() {
		words := numbers(n)
		m := filled(words)
		for _, a := range outside(n) {
			for way, f := range ways(m, a, 9) {
				wantStop(t, way, a, f)
			}
		}
		want(t, "Count behind accesses that stopped", m.Count(), n)
		wantWords(t, "a memory behind accesses that stopped", m, words)
		want(t, "Count goes on behind them", m.Count(), 2*n)
	}
}

func TestP3_2FirstAndLastWord(t *testing.T) {
	for _, n := range sizes()[1:] {
		m := word.New(n)
		for _, a := range []int{0, n - 1} {
			m.Store(a, 5)
			want(t, "Load", m.Load(a), 5)
			want(t, "Add", m.Add(a, 3), 5)
			want(t, "Swap", m.Swap(a, -1), 8)
			want(t, "Load", m.Load(a), -1)
		}
		want(t, "Count", m.Count(), 10)
	}
}

func TestP3_2LoadLeavesTheWord(t *testing.T) {
	m := word.New(1)
	for _, v := range edges() {
		m.Store(0, v)
		for range 3 {
			want(t, "Load", m.Load(0), v)
		}
	}
}

func TestP3_2StoreOverWhatWasThere(t *testing.T) {
	m := word.New(1)
	for _, had := range edges() {
		for _, v := range edges() {
			m.Store(0, had)
			m.Store(0, v)
			want(t, "Load behind Store", m.Load(0), v)
		}
	}
}

func TestP3_2AddTellsWhatItHad(t *testing.T) {
	m := word.New(1)
	sum := uint64(0)
	for _, v := range edges() {
		for _, more := range []int{v, v, 0, -v} {
			want(t, "Add", m.Add(0, more), int(sum))
			sum += uint64(more)
			want(t, "Load behind Add", m.Load(0), int(sum))
		}
	}
}

func TestP3_2AddGoesRound(t *testing.T) {
	for _, c := range []struct{ had, more, has int }{
		{math.MaxInt, 1, math.MinInt},
		{math.MinInt, -1, math.MaxInt},
		{math.MaxInt, math.MaxInt, -2},
		{math.MinInt, math.MinInt, 0},
		{1 << 62, 1 << 62, math.MinInt},
		{-1, 1, 0},
		{math.MinInt, math.MaxInt, -1},
	} {
		m := word.New(1)
		m.Store(0, c.had)
		want(t, "Add", m.Add(0, c.more), c.had)
		want(t, "Load behind Add", m.Load(0), c.has)
	}
}

func TestP3_2SwapTellsWhatItHad(t *testing.T) {
	m := word.New(1)
	had := 0
	for _, v := range edges() {
		for range 2 {
			want(t, "Swap", m.Swap(0, v), had)
			want(t, "Load behind Swap", m.Load(0), v)
			had = v
		}
	}
}

func TestP3_3WordsDoNotTouchEachOther(t *testing.T) {
	const n = 8
	for a := range n {
		for _, v := range edges() {
			for way, f := range map[string]func(m *word.Mem, words []int){
				"Load":  func(m *word.Mem, words []int) { m.Load(a) },
				"Store": func(m *word.Mem, words []int) { m.Store(a, v); words[a] = v },
				"Add":   func(m *word.Mem, words []int) { m.Add(a, v); words[a] += v },
				"Swap":  func(m *word.Mem, words []int) { m.Swap(a, v); words[a] = v },
			} {
				words := numbers(n)
				m := filled(words)
				f(m, words)
				wantWords(t, "behind "+way, m, words)
			}
		}
	}
}

func TestP3_3AllWordsAreTheirOwn(t *testing.T) {
	words := numbers(api.MaxWords)
	m := filled(words)
	wantWords(t, "a full memory", m, words)
	for a := range words {
		want(t, "Add", m.Add(a, -a), words[a])
		words[a] -= a
	}
	wantWords(t, "a full memory behind Adds", m, words)
	for a := range words {
		want(t, "Swap", m.Swap(a, a), words[a])
		words[a] = a
	}
	wantWords(t, "a full memory behind Swaps", m, words)
	want(t, "Count", m.Count(), 6*api.MaxWords)
}

func TestP3_3MemoriesDoNotTouchEachOther(t *testing.T) {
	m, other := filled(numbers(4)), word.New(4)
	wantWords(t, "the other", other, make([]int, 4))
	other.Store(1, 7)
	wantStop(t, "Store", 4, func() { other.Store(4, 7) })
	wantWords(t, "the first", m, numbers(4))
	wantWords(t, "the other", other, []int{0, 7, 0, 0})
}

func TestRuns(t *testing.T) {
	m := word.New(4)
	m.Store(2, 5)
	want(t, "Add(2, 3)", m.Add(2, 3), 5)
	want(t, "Swap(2, -1)", m.Swap(2, -1), 8)
	want(t, "Load(2)", m.Load(2), -1)
	wantStop(t, "Load(4)", 4, func() { m.Load(4) })
	want(t, "Count", m.Count(), 4)
}
