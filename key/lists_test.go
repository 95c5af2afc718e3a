package key_test

import (
	"cmp"
	"slices"
	"testing"

	"cloister/api"
	"cloister/key"
)

// few are objects next to each other and far apart, with strangers among them.
func few() []api.Key {
	return keys(k(api.KMem, 7), k(api.KProc, 1), k(0, 0), k(api.KClock, 0), k(api.KProc, 0), k(api.KProc, 8))
}

// there tells whether there is such an object, by the table that was written by hand.
func there(x api.Key) bool { return slices.Contains(row(), x) }

// sorted is what Sort must answer, told in another way: by comparing.
func sorted(l []api.Key) []api.Key {
	l = slices.DeleteFunc(slices.Clone(l), func(x api.Key) bool { return !there(x) })
	slices.SortFunc(l, func(a, b api.Key) int {
		return cmp.Or(cmp.Compare(a.Kind, b.Kind), cmp.Compare(a.N, b.N))
	})
	return slices.Compact(l)
}

// within is what Within must answer, one by one.
func within(a, b []api.Key) bool {
	return !slices.ContainsFunc(a, func(x api.Key) bool { return there(x) && !slices.Contains(b, x) })
}

// lists hands f every list of at most n of the keys, in every order and with every repeat.
func lists(of []api.Key, n int, f func([]api.Key)) {
	var longer func(l []api.Key)
	longer = func(l []api.Key) {
		f(l)
		if len(l) == n {
			return
		}
		for _, x := range of {
			longer(append(slices.Clone(l), x))
		}
	}
	longer(nil)
}

func TestP7_3SortOfAllShortLists(t *testing.T) {
	n := 0
	lists(few(), 5, func(l []api.Key) {
		n++
		wantSort(t, l, sorted(l)...)
	})
	if n != 1+6+36+216+1296+7776 {
		t.Errorf("%d lists", n)
	}
}

func TestP7_3WithinOfAllShortLists(t *testing.T) {
	yes, no := 0, 0
	lists(few(), 3, func(a []api.Key) {
		lists(few(), 3, func(b []api.Key) {
			want := within(a, b)
			wantWithin(t, a, b, want)
			if want {
				yes++
			} else {
				no++
			}
		})
	})
	if yes == 0 || no == 0 || yes+no != 259*259 {
		t.Errorf("%d within, %d not", yes, no)
	}
}

// One list is within another just if the two together sort to the other.
func TestP7_3SortAndWithinAgree(t *testing.T) {
	lists(few(), 3, func(a []api.Key) {
		for cut := range len(a) + 1 {
			l, r := a[:cut], a[cut:]
			together := slices.Equal(key.Sort(slices.Concat(l, r)), key.Sort(r))
			if got := key.Within(l, r); got != together {
				t.Errorf("Within(%v, %v): %v, but together they are %v", l, r, got, key.Sort(a))
			}
		}
	})
}

// Sort of long lists is asked with many repeats: each object comes once whatever was there.
func TestP7_3SortOfLongLists(t *testing.T) {
	var l []api.Key
	for i := range 20000 {
		l = append(l, k(i*7%15-1, i*11%19-1))
	}
	wantSort(t, l, sorted(l)...)
	wantWithin(t, l, row(), true)
	wantWithin(t, row(), l, within(row(), l))
}
