package fetch_test

import (
	"runtime"
	"slices"
	"strconv"
	"testing"
	"time"

	"mews/api"
	"mews/fetch"
)

// mark is what lies behind lists, and what is written into them.
const mark = -77

// roomy is the list with spare room behind it, filled with a mark.
func roomy(list ...int) []int {
	whole := slices.Clone(list)
	for range 50 {
		whole = append(whole, mark)
	}
	return whole[:len(list)]
}

// whole is the list with what lies behind it.
func whole[T any](list []T) []T { return list[:cap(list)] }

// spoil writes into all the memory of a list.
func spoil[T any](list []T, with T) {
	for i := range whole(list) {
		whole(list)[i] = with
	}
	_ = append(list, with, with)
}

func TestP13_4_HandedIn(t *testing.T) {
	for _, workers := range crews() {
		for _, list := range [][]int{{}, {4}, {4, 2, 4, 1, 0, 2}, {4, 3, 5, 1, 3}, falling(count(100))} {
			given := roomy(list...)
			before := slices.Clone(whole(given))
			do, w := watched(square)
			next, v := watched(func(k int) ([]int, api.Errno) {
				_, e := square(k)
				return nil, e
			})
			results, _ := fetch.All(given, workers, do)
			isList(t, "what was handed to All", whole(given), before)
			told, _ := fetch.Each(given, workers, do)
			isList(t, "what was handed to Each", whole(given), before)
			reached, _ := fetch.Walk(given, workers, 100, next)
			isList(t, "what was handed to Walk", whole(given), before)
			is(t, "what lies behind, asked", w.count(mark)+v.count(mark), 0)
			allBefore, eachBefore, walkBefore := slices.Clone(results), slices.Clone(told), slices.Clone(reached)
			spoil(given, mark)
			isList(t, "All, what was handed in spoilt", results, allBefore)
			isList(t, "Each, what was handed in spoilt", told, eachBefore)
			isList(t, "Walk, what was handed in spoilt", reached, walkBefore)
		}
	}
}

// What is asked does not hang on what becomes of the list meanwhile.
func TestP13_4_SpoiltMeanwhile(t *testing.T) {
	for name, call := range calls() {
		given := roomy(5, 1, 4, 2, 3)
		do, w := watched(func(int) (int, api.Errno) {
			spoil(given, mark)
			return 0, api.OK
		})
		isError(t, name, call(given, 1, do), api.OK)
		isList(t, name+", asked", w.order, keys(1, 2, 3, 4, 5))
	}
}

// What next answers is its own.
func TestP13_4_NextsLists(t *testing.T) {
	for _, workers := range crews() {
		lists := map[int][]int{1: roomy(5, 3, 3, 2), 2: roomy(5, 1), 3: roomy(2), 5: roomy()}
		next, w := watched(func(k int) ([]int, api.Errno) { return lists[k], api.OK })
		l, e := fetch.Walk(keys(1), workers, 9, next)
		isError(t, "Walk", e, api.OK)
		isList(t, "Walk", l, keys(1, 2, 3, 5))
		is(t, "what lies behind, asked", w.count(mark), 0)
		isList(t, "next's list", whole(lists[1]), whole(roomy(5, 3, 3, 2)))
		isList(t, "next's list", whole(lists[2]), whole(roomy(5, 1)))
		isList(t, "next's list", whole(lists[3]), whole(roomy(2)))
		isList(t, "next's list", whole(lists[5]), whole(roomy()))
		for _, list := range lists {
			spoil(list, mark)
		}
		isList(t, "Walk, next's lists spoilt", l, keys(1, 2, 3, 5))
		lists = map[int][]int{1: roomy(1), 4: roomy(4)}
		l, _ = fetch.Walk(keys(4, 1), workers, 9, next)
		spoil(l, mark)
		isList(t, "next's list, what Walk answered spoilt", whole(lists[1]), whole(roomy(1)))
		isList(t, "next's list, what Walk answered spoilt", whole(lists[4]), whole(roomy(4)))
	}
}

// One that has one list for all its answers may use it again.
func TestP13_4_NextUsesAgain(t *testing.T) {
	one := make([]int, 0, 100)
	l, e := fetch.Walk(keys(1), 1, 100, func(k int) ([]int, api.Errno) {
		spoil(one[:0], mark)
		list, _ := below6(k)
		one = append(one[:0], list...)
		return one, api.OK
	})
	isError(t, "Walk", e, api.OK)
	isList(t, "Walk", l, keys(1, 2, 3, 4, 5))
}

// apart fails the test unless what is written into a list is seen neither by
// another one, nor by one that is asked for later.
func apart[T comparable](t *testing.T, what string, with T, ask func() []T) {
	t.Helper()
	first, second := ask(), ask()
	want := slices.Clone(second)
	is(t, what+", whether there are any", len(want) > 0, true)
	isList(t, what, first, want)
	spoil(first, with)
	isList(t, what+", the other one", second, want)
	third := ask()
	isList(t, what+", asked again", third, want)
	spoil(second, with)
	isList(t, what+", asked again, the other one spoilt", third, want)
}

func TestP13_4_NewMemory(t *testing.T) {
	for _, workers := range crews() {
		for _, given := range [][]int{roomy(1), roomy(4, 2, 1), roomy(1, 2, 4), falling(append(count(3), 4, 6, 7))} {
			apart(t, "All", result(mark, mark), func() []fetch.Result[int, int] {
				l, e := fetch.All(given, workers, square)
				isError(t, "All", e, api.OK)
				return l
			})
			apart(t, "Each", result(mark, mark), func() []fetch.Result[int, int] {
				l, e := fetch.Each(append(slices.Clone(given), 3, 5), workers, square)
				isError(t, "Each", e, api.OK)
				return l
			})
			apart(t, "Walk", mark, func() []int {
				l, e := fetch.Walk(given, workers, 20, below6)
				isError(t, "Walk", e, api.OK)
				return l
			})
			before := slices.Clone(given)
			l, _ := fetch.Walk(given, workers, 20, below6)
			spoil(l, mark)
			isList(t, "what was handed to Walk, what it answered spoilt", given, before)
		}
	}
}

// What is asked is answered, and nothing is asked any more, when a call answers.
func TestP13_4_NothingGoesOn(t *testing.T) {
	for name, call := range calls() {
		for _, workers := range crews() {
			for _, bad := range []int{-1, 0, workers / 2, workers, 3 * workers} {
				do, w := watched(func(k int) (int, api.Errno) {
					if k == bad {
						return 0, api.ErrNet
					}
					time.Sleep(pause / 5)
					return 0, api.OK
				})
				call(count(4*workers), workers, do)
				asked, inside := w.total()
				is(t, name+", still asked, "+strconv.Itoa(workers)+" workers", inside, 0)
				if workers < 9 {
					time.Sleep(pause)
				}
				later, _ := w.total()
				is(t, name+", asked later on", later, asked)
			}
		}
	}
}

// No goroutine is left, of whatever call.
func TestP13_4_NoGoroutineLeft(t *testing.T) {
	before := runtime.NumGoroutine()
	o := fetch.NewOnce[int, int]()
	for range 20 {
		for _, workers := range append(crews(), 0) {
			for _, given := range [][]int{nil, {1}, {3}, {5, 4, 3, 2, 1}, count(3 * workers)} {
				for _, call := range calls() {
					call(given, workers, square)
				}
				fetch.Walk(given, workers, 5, below6)
			}
			o.Do(workers, func() (int, api.Errno) { return square(workers) })
		}
	}
	// One that has said that it is done may take a moment to be gone.
	for end := time.Now().Add(patience); runtime.NumGoroutine() > before && time.Now().Before(end); {
		time.Sleep(time.Millisecond)
	}
	is(t, "goroutines left", max(0, runtime.NumGoroutine()-before), 0)
}
