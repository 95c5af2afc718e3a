package halt_test

import (
	"errors"
	"math"
	"slices"
	"testing"

	"cloister/api"
	"cloister/halt"
)

var (
	none  = api.Stop{}
	other = api.Stop{Why: api.WOther}
)

// panicked tells what f panics with, without the help of the package that is tried; nil if it ends well.
func panicked(f func()) (v any) {
	defer func() { v = recover() }()
	f()
	return nil
}

func stopper(why, at int) func() {
	return func() { halt.Stop(why, at) }
}

func wantGuard(t *testing.T, what string, f func(), want api.Stop, stopped bool) {
	t.Helper()
	if stop, ok := halt.Guard(f); stop != want || ok != stopped {
		t.Errorf("Guard of %s: %v, %v, not %v, %v", what, stop, ok, want, stopped)
	}
}

func wantRun(t *testing.T, what string, l []func(), n int, want api.Stop) {
	t.Helper()
	if got, stop := halt.Run(l...); got != n || stop != want {
		t.Errorf("Run of %s: %d, %v, not %d, %v", what, got, stop, n, want)
	}
}

// log notes in which order things were done.
type log struct{ done []int }

func (l *log) does(n int) func() {
	return func() { l.done = append(l.done, n) }
}

func (l *log) doesAndStops(n int, stop api.Stop) func() {
	return func() {
		l.done = append(l.done, n)
		halt.Stop(stop.Why, stop.At)
	}
}

func (l *log) want(t *testing.T, want ...int) {
	t.Helper()
	if !slices.Equal(l.done, want) {
		t.Errorf("done: %v, not %v", l.done, want)
	}
}

// stops are of all whys, of what is none, and of the edges of int; that of zeros too.
func stops() []api.Stop {
	var all []api.Stop
	for _, why := range []int{
		0, api.WOther, api.WBus, api.WHart, api.WNest, api.WRank, api.WHeld, api.WPage, api.WFull, api.WState,
		api.WState + 1, -1, math.MaxInt, math.MinInt,
	} {
		for _, at := range []int{0, 1, 7, -1, math.MaxInt, math.MinInt} {
			all = append(all, api.Stop{Why: why, At: at})
		}
	}
	return all
}

type namedStop api.Stop

type holdingStop struct{ api.Stop }

type errorStop struct{ api.Stop }

func (errorStop) Error() string { return "stop" }

// noStops are panics with what is no api.Stop, however near it is to one.
func noStops() map[string]func() {
	var array []int
	var table map[int]int
	var value any
	var pointer *api.Stop
	var nothing func()
	zero := 0
	with := func(v any) func() { return func() { panic(v) } }
	return map[string]func(){
		"a text": with("text"), "a number": with(7), "an error": with(errors.New("x")), "a list": with([]int{1}),
		"nil": with(nil), "a nil error": with(error(nil)), "a nil pointer to a Stop": with(pointer),
		"a pointer to a Stop": with(&api.Stop{Why: api.WBus, At: 3}), "a list of Stops": with([]api.Stop{{Why: api.WBus, At: 3}}),
		"a Stop of another name": with(namedStop{Why: api.WBus, At: 3}), "what holds a Stop": with(holdingStop{api.Stop{Why: api.WBus, At: 3}}),
		"an error that holds a Stop": with(errorStop{api.Stop{Why: api.WBus, At: 3}}), "a bare struct": with(struct{ Why, At int }{api.WBus, 3}),
		"two numbers": with([2]int{api.WBus, 3}), "false": with(false), "zero": with(0),
		"an index that isn't there": func() { array[zero]++ }, "a nil map": func() { table[1] = 1 }, "a division by zero": func() { zero = 1 / zero },
		"an assertion that fails": func() { zero = value.(int) }, "a nil pointer": func() { zero = pointer.Why }, "a call of nil": func() { nothing() },
	}
}

func TestP2_1StopPanicsWithAStop(t *testing.T) {
	for _, want := range stops() {
		if got := panicked(stopper(want.Why, want.At)); got != any(want) {
			t.Errorf("Stop%v panics with %#v", want, got)
		}
	}
}

func TestP2_1StopGoesNoFurther(t *testing.T) {
	var l log
	panicked(func() {
		l.does(1)()
		halt.Stop(api.WHeld, 2)
		l.does(2)()
	})
	l.want(t, 1)
}

func TestP2_1MustStopsIfItIsNotOk(t *testing.T) {
	for _, want := range stops() {
		if got := panicked(func() { halt.Must(false, want.Why, want.At) }); got != any(want) {
			t.Errorf("Must(false, %d, %d) panics with %#v", want.Why, want.At, got)
		}
		if got := panicked(func() { halt.Must(true, want.Why, want.At) }); got != nil {
			t.Errorf("Must(true, %d, %d) panics with %#v", want.Why, want.At, got)
		}
	}
}

func TestP2_1MustGoesOnIfItIsOk(t *testing.T) {
	var l log
	panicked(func() {
		halt.Must(true, api.WBus, 1)
		l.does(1)()
		halt.Must(false, api.WBus, 2)
		l.does(2)()
	})
	l.want(t, 1)
}

func TestP2_2GuardTellsStops(t *testing.T) {
	for _, want := range stops() {
		wantGuard(t, "Stop", stopper(want.Why, want.At), want, true)
		wantGuard(t, "Must", func() { halt.Must(false, want.Why, want.At) }, want, true)
		wantGuard(t, "a panic with a Stop", func() { panic(want) }, want, true)
		wantGuard(t, "Must of what is ok", func() { halt.Must(true, want.Why, want.At) }, none, false)
	}
}

func TestP2_2GuardTellsOtherPanics(t *testing.T) {
	for what, f := range noStops() {
		wantGuard(t, what, f, other, true)
	}
}

func TestP2_2GuardOfNil(t *testing.T) {
	wantGuard(t, "nil", nil, none, false)
	var f func()
	wantGuard(t, "a nil function", f, none, false)
}

func TestP2_2GuardRunsOnce(t *testing.T) {
	var l log
	wantGuard(t, "a deed", l.does(1), none, false)
	wantGuard(t, "a deed that stops", l.doesAndStops(2, api.Stop{Why: api.WFull, At: 1}), api.Stop{Why: api.WFull, At: 1}, true)
	l.want(t, 1, 2)
}

func TestP2_2GuardOfAStopThatIsDeep(t *testing.T) {
	var down func(n int)
	down = func(n int) {
		halt.Must(n > 0, api.WState, n)
		down(n - 1)
	}
	wantGuard(t, "a deep stop", func() { down(10000) }, api.Stop{Why: api.WState}, true)
}

func TestP2_2GuardWithinGuard(t *testing.T) {
	wantGuard(t, "a guard that catches", func() {
		wantGuard(t, "a guard that catches", func() {
			wantGuard(t, "a stop", stopper(api.WRank, 1), api.Stop{Why: api.WRank, At: 1}, true)
		}, none, false)
	}, none, false)
	wantGuard(t, "a stop behind a guard", func() {
		wantGuard(t, "a stop", stopper(api.WRank, 1), api.Stop{Why: api.WRank, At: 1}, true)
		halt.Stop(api.WPage, 2)
	}, api.Stop{Why: api.WPage, At: 2}, true)
	wantGuard(t, "another panic behind a guard", func() {
		wantGuard(t, "a stop", stopper(api.WRank, 1), api.Stop{Why: api.WRank, At: 1}, true)
		panic("x")
	}, other, true)
	wantGuard(t, "a stop of what a guard told", func() {
		stop, _ := halt.Guard(func() { panic("x") })
		halt.Stop(stop.Why, stop.At+1)
	}, api.Stop{Why: api.WOther, At: 1}, true)
}

func TestP2_2GuardsOneAfterAnother(t *testing.T) {
	wantGuard(t, "a stop", stopper(api.WBus, 1), api.Stop{Why: api.WBus, At: 1}, true)
	wantGuard(t, "nothing", func() {}, none, false)
	wantGuard(t, "a panic", func() { panic(1) }, other, true)
	wantGuard(t, "nil", nil, none, false)
}

func TestP2_2GuardOfWhatRecoversItself(t *testing.T) {
	wantGuard(t, "a deed that recovers", func() { panicked(stopper(api.WBus, 1)) }, none, false)
}

func TestP2_2GuardTellsTheLastOfTwoStops(t *testing.T) {
	wantGuard(t, "a stop in a deferred call", func() {
		defer halt.Stop(api.WFull, 2)
		halt.Stop(api.WBus, 1)
	}, api.Stop{Why: api.WFull, At: 2}, true)
}

func TestP2_3RunOfDeeds(t *testing.T) {
	var l log
	wantRun(t, "three", []func(){l.does(1), l.does(2), l.does(3)}, 3, none)
	l.want(t, 1, 2, 3)
	wantRun(t, "one", []func(){l.does(4)}, 1, none)
	l.want(t, 1, 2, 3, 4)
}

func TestP2_3RunOfNoDeeds(t *testing.T) {
	wantRun(t, "nil", nil, 0, none)
	wantRun(t, "an empty list", []func(){}, 0, none)
	if n, stop := halt.Run(); n != 0 || stop != none {
		t.Error(n, stop)
	}
}

func TestP2_3RunTillOneStops(t *testing.T) {
	const deeds = 5
	for at := range deeds {
		for _, want := range stops() {
			var l log
			var list []func()
			var done []int
			for i := range deeds {
				if i == at {
					list = append(list, l.doesAndStops(i, want))
				} else {
					list = append(list, l.does(i))
				}
				if i <= at {
					done = append(done, i)
				}
			}
			wantRun(t, "one that stops", list, at, want)
			l.want(t, done...)
		}
	}
}

func TestP2_3RunTellsTheFirstStop(t *testing.T) {
	wantRun(t, "two that stop", []func(){func() {}, stopper(api.WBus, 1), stopper(api.WHart, 2)}, 1, api.Stop{Why: api.WBus, At: 1})
}

func TestP2_3RunOfOtherPanics(t *testing.T) {
	for what, f := range noStops() {
		wantRun(t, what, []func(){func() {}, f, func() {}}, 1, other)
	}
}

func TestP2_3RunCountsNilDeeds(t *testing.T) {
	var l log
	wantRun(t, "nils", []func(){nil, nil}, 2, none)
	wantRun(t, "nils beside deeds", []func(){nil, l.does(1), nil, l.does(2)}, 4, none)
	wantRun(t, "nil ahead of a stop", []func(){nil, l.does(3), nil, stopper(api.WPage, 9), l.does(4)}, 3, api.Stop{Why: api.WPage, At: 9})
	l.want(t, 1, 2, 3)
}

func TestP2_3RunOfAStopOfZeros(t *testing.T) {
	var l log
	wantRun(t, "a stop of zeros", []func(){l.does(1), stopper(0, 0), l.does(2)}, 1, none)
	l.want(t, 1)
}

func TestP2_3RunLeavesItsList(t *testing.T) {
	var l log
	room := []func(){l.does(1), stopper(api.WBus, 1), l.does(2), l.does(3)}
	wantRun(t, "a list with room", room[:2], 1, api.Stop{Why: api.WBus, At: 1})
	l.want(t, 1)
	for _, i := range []int{0, 2, 3} {
		room[i]()
	}
	l.want(t, 1, 1, 2, 3)
}

func TestP2_3RunWithinRun(t *testing.T) {
	inner := func() {
		wantRun(t, "inner", []func(){stopper(api.WBus, 1)}, 0, api.Stop{Why: api.WBus, At: 1})
	}
	wantRun(t, "runs", []func(){inner, inner, stopper(api.WHart, 2)}, 2, api.Stop{Why: api.WHart, At: 2})
}

func TestP2_4AfterInOrder(t *testing.T) {
	var l log
	wantGuard(t, "two that end well", func() {
		halt.After(l.does(1), l.does(2))
		l.does(3)()
	}, none, false)
	l.want(t, 1, 2, 3)
}

func TestP2_4FirstStopGoesOn(t *testing.T) {
	for _, want := range stops() {
		var l log
		wantGuard(t, "a first that stops", func() {
			halt.After(l.doesAndStops(1, want), l.does(2))
			l.does(3)()
		}, want, true)
		l.want(t, 1, 2)
	}
}

func TestP2_4LastStopGoesOn(t *testing.T) {
	first := api.Stop{Why: api.WPage, At: 5}
	for _, want := range stops() {
		var l log
		wantGuard(t, "a last that stops", func() {
			halt.After(l.does(1), l.doesAndStops(2, want))
			l.does(3)()
		}, want, true)
		wantGuard(t, "two that stop", func() {
			halt.After(l.doesAndStops(4, first), l.doesAndStops(5, want))
			l.does(6)()
		}, want, true)
		l.want(t, 1, 2, 4, 5)
	}
}

func TestP2_4OtherPanicsGoOn(t *testing.T) {
	stop := api.Stop{Why: api.WHeld, At: 4}
	for what, f := range noStops() {
		var l log
		wantGuard(t, what+", first", func() { halt.After(f, l.does(1)) }, other, true)
		wantGuard(t, what+", last", func() { halt.After(l.does(2), f) }, other, true)
		wantGuard(t, what+" behind a stop", func() { halt.After(l.doesAndStops(3, stop), f) }, other, true)
		wantGuard(t, what+" ahead of a stop", func() { halt.After(f, l.doesAndStops(4, stop)) }, stop, true)
		l.want(t, 1, 2, 3, 4)
	}
	if v := panicked(func() { halt.After(func() { panic("text") }, nil) }); v != "text" {
		t.Errorf("a text goes on as %#v", v)
	}
}

func TestP2_4NilIsNone(t *testing.T) {
	var l log
	stop := api.Stop{Why: api.WNest, At: 6}
	wantGuard(t, "two nils", func() { halt.After(nil, nil) }, none, false)
	wantGuard(t, "a nil first", func() { halt.After(nil, l.does(1)) }, none, false)
	wantGuard(t, "a nil last", func() { halt.After(l.does(2), nil) }, none, false)
	wantGuard(t, "a nil first, a last that stops", func() { halt.After(nil, l.doesAndStops(3, stop)) }, stop, true)
	wantGuard(t, "a nil last, a first that stops", func() { halt.After(l.doesAndStops(4, stop), nil) }, stop, true)
	l.want(t, 1, 2, 3, 4)
}

func TestP2_4AfterWithinAfter(t *testing.T) {
	var l log
	stop := api.Stop{Why: api.WFull, At: 1}
	wantGuard(t, "a first within a first", func() {
		halt.After(func() { halt.After(l.doesAndStops(1, stop), l.does(2)) }, l.does(3))
	}, stop, true)
	wantGuard(t, "clean-ups within a clean-up", func() {
		halt.After(l.doesAndStops(4, stop), func() { halt.After(l.does(5), l.does(6)) })
	}, stop, true)
	l.want(t, 1, 2, 3, 4, 5, 6)
}

// A guard inside the clean-up tells of its own deed, and not of the stop that is on its way.
func TestP2_4GuardsInTheLastDeed(t *testing.T) {
	stop := api.Stop{Why: api.WState, At: 8}
	cleanUp := func() {
		wantGuard(t, "nothing, in a clean-up", func() {}, none, false)
		wantGuard(t, "nil, in a clean-up", nil, none, false)
		wantGuard(t, "a stop, in a clean-up", stopper(api.WBus, 2), api.Stop{Why: api.WBus, At: 2}, true)
		wantRun(t, "deeds, in a clean-up", []func(){func() {}, stopper(api.WHart, 3)}, 1, api.Stop{Why: api.WHart, At: 3})
	}
	wantGuard(t, "a stop with guards behind it", func() { halt.After(stopper(stop.Why, stop.At), cleanUp) }, stop, true)
	wantGuard(t, "guards behind a deed", func() { halt.After(func() {}, cleanUp) }, none, false)
}

func TestRuns(t *testing.T) {
	var list []int
	nothing := func() {}
	wantGuard(t, "Stop(WPage, 7)", func() { halt.Stop(api.WPage, 7) }, api.Stop{Why: api.WPage, At: 7}, true)
	wantGuard(t, "nothing", nothing, none, false)
	wantGuard(t, "an index that isn't there", func() { list[len(list)] = 1 }, other, true)
	must := func() { halt.Must(false, api.WBus, 3) }
	wantRun(t, "four", []func(){nothing, nothing, must, nothing}, 2, api.Stop{Why: api.WBus, At: 3})
}
