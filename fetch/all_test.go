package fetch_test

import (
	"slices"
	"strconv"
	"strings"
	"sync/atomic"
	"testing"
	"time"

	"mews/api"
	"mews/fetch"
)

// badCrews is what workers may not be.
func badCrews() []int {
	return []int{-1 << 63, -api.MaxWorkers, -1, 0, api.MaxWorkers + 1, 1<<63 - 1}
}

// isAll fails the test unless All answers these results, with each key asked once.
func isAll[V comparable](t *testing.T, what string, keys []int, do func(int) (V, api.Errno), want ...fetch.Result[int, V]) {
	t.Helper()
	for _, workers := range crews() {
		do, w := watched(do)
		l, e := fetch.All(keys, workers, do)
		isError(t, what+", "+strconv.Itoa(workers)+" workers", e, api.OK)
		isList(t, what+", "+strconv.Itoa(workers)+" workers", l, want)
		for _, key := range keys {
			is(t, what+", asked", w.count(key), 1)
		}
	}
}

// isAllNot fails the test unless All answers an error, the least one of which a
// key has, and asked each key up to that one, and none twice.
func isAllNot[V any](t *testing.T, what string, keys []int, do func(int) (V, api.Errno), least int, want api.Errno) {
	t.Helper()
	for _, workers := range crews() {
		do, w := watched(do)
		l, e := fetch.All(keys, workers, do)
		isError(t, what+", "+strconv.Itoa(workers)+" workers", e, want)
		is(t, what+", results", len(l), 0)
		for _, key := range keys {
			n := w.count(key)
			is(t, what+", asked up to the least", n == 1 || n == 0 && key > least, true)
		}
	}
}

func TestP13_1_Workers(t *testing.T) {
	for _, workers := range badCrews() {
		do, w := watched(square)
		for _, keys := range [][]int{nil, {1}, {3}, {1, 2, 3, 5}} {
			l, e := fetch.All(keys, workers, do)
			isError(t, "All, "+strconv.Itoa(workers)+" workers", e, api.ErrRange)
			is(t, "All, results", len(l), 0)
			l, e = fetch.Each(keys, workers, do)
			isError(t, "Each, "+strconv.Itoa(workers)+" workers", e, api.ErrRange)
			is(t, "Each, results", len(l), 0)
		}
		asked, _ := w.total()
		is(t, "asked", asked, 0)
	}
	for workers := 1; workers <= api.MaxWorkers; workers++ {
		l, e := fetch.All([]int{2, 1}, workers, square)
		isError(t, "All, "+strconv.Itoa(workers)+" workers", e, api.OK)
		is(t, "All, results", len(l), 2)
		l, e = fetch.Each([]int{2, 1}, workers, square)
		isError(t, "Each, "+strconv.Itoa(workers)+" workers", e, api.OK)
		is(t, "Each, results", len(l), 2)
	}
}

func TestP13_1_AllKeys(t *testing.T) {
	isAll(t, "nil", nil, square)
	isAll(t, "no key", []int{}, square)
	isAll(t, "one key", []int{-7}, square, result(-7, 49))
	isAll(t, "the same key", slices.Repeat([]int{4}, 1000), square, result(4, 16))
	isAll(t, "keys that fall", []int{4, 2, 1, 0, -1, -9}, square,
		result(-9, 81), result(-1, 1), result(0, 0), result(1, 1), result(2, 4), result(4, 16))
	isAll(t, "the least and the greatest", []int{1<<63 - 1, 0, -1 << 63, 1<<63 - 1},
		func(k int) (string, api.Errno) { return strconv.Itoa(k), api.OK },
		result(-1<<63, "-9223372036854775808"), result(0, "0"), result(1<<63-1, "9223372036854775807"))
	same := func(k int) (int, api.Errno) { return k, api.OK }
	for _, size := range []int{1, 2, 63, 64, 65, 1000} {
		var want []fetch.Result[int, int]
		for _, k := range count(size) {
			want = append(want, result(k, k))
		}
		isAll(t, strconv.Itoa(size)+" keys", count(size), same, want...)
		isAll(t, strconv.Itoa(size)+" keys that fall", falling(count(size)), same, want...)
	}
}

func TestP13_1_AllKinds(t *testing.T) {
	for _, workers := range crews() {
		l, e := fetch.All([]string{"b", "", "a", "\xff", "b", "B"}, workers, func(k string) (string, api.Errno) { return strings.Repeat(k, 2), api.OK })
		isError(t, "All of strings", e, api.OK)
		isList(t, "All of strings", l, []fetch.Result[string, string]{result("", ""), result("B", "BB"), result("a", "aa"), result("b", "bb"), result("\xff", "\xff\xff")})
		m, e := fetch.All([]byte{255, 1, 128}, workers, func(k byte) (struct{}, api.Errno) { return struct{}{}, api.OK })
		isError(t, "All of bytes", e, api.OK)
		isList(t, "All of bytes", m, []fetch.Result[byte, struct{}]{result(byte(1), struct{}{}), result(byte(128), struct{}{}), result(byte(255), struct{}{})})
		_, e = fetch.All([]string{"9", "10", "a"}, workers, func(k string) (int, api.Errno) {
			n, bad := strconv.Atoi(k)
			if bad != nil {
				return 0, api.ErrForm
			}
			return 0, api.Errno(n)
		})
		isError(t, "All of strings, the least has an error", e, 10)
	}
}

// errorAt is a key's own text, but an error of some keys, with a text beside.
func errorAt(keys ...int) func(int) (string, api.Errno) {
	return func(k int) (string, api.Errno) {
		if slices.Contains(keys, k) {
			return "beside", api.Errno(1 + k)
		}
		return strconv.Itoa(k), api.OK
	}
}

func TestP13_1_AllErrors(t *testing.T) {
	for _, size := range []int{1, 2, 10, 64, 65, 300} {
		last := size - 1
		for _, keys := range [][]int{count(size), falling(count(size)), append(count(size), count(size)...)} {
			isAllNot(t, "at the least", keys, errorAt(0), 0, 1)
			isAllNot(t, "at the greatest", keys, errorAt(last), last, api.Errno(1+last))
			isAllNot(t, "in the middle", keys, errorAt(size/2), size/2, api.Errno(1+size/2))
			isAllNot(t, "at several", keys, errorAt(size/2, last, size/3), size/3, api.Errno(1+size/3))
			isAllNot(t, "at all", keys, errorAt(count(size)...), 0, 1)
		}
	}
	isAllNot(t, "of one key alone", []int{3, 3}, square, 3, api.ErrNone)
	isAllNot(t, "below 0", []int{3, -1}, func(k int) (int, api.Errno) { return 0, api.Errno(k) }, -1, -1)
}

// The least key with an error answers when those behind it, which have errors
// too, have answered already.
func TestP13_1_AllSlowLeast(t *testing.T) {
	for _, workers := range []int{2, 3, 8, api.MaxWorkers} {
		for _, least := range []int{0, 1} {
			quick := make(chan struct{})
			var closed atomic.Bool
			do, w := watched(func(k int) (string, api.Errno) {
				switch {
				case k == least:
					is(t, "whether another key is asked meanwhile", came(quick), true)
					time.Sleep(pause)
					return "slow", api.ErrNone
				case k > least:
					if closed.CompareAndSwap(false, true) {
						close(quick)
					}
					return "quick", api.ErrNet
				}
				return "", api.OK
			})
			l, e := fetch.All(falling(count(100)), workers, do)
			isError(t, "All, the least slow", e, api.ErrNone)
			is(t, "All, the least slow, results", len(l), 0)
			is(t, "All, the least slow, asked", w.count(least), 1)
		}
	}
}

// What is less than a key with an error is asked, and waited for, also where
// it is the last to answer, and has none.
func TestP13_1_AllSlowGood(t *testing.T) {
	for _, workers := range []int{2, 8, api.MaxWorkers} {
		do, w := watched(func(k int) (string, api.Errno) {
			if k < workers-1 {
				time.Sleep(pause)
				return "slow", api.OK
			}
			return "", api.ErrNet
		})
		_, e := fetch.All(count(200), workers, do)
		isError(t, "All, the first ones slow", e, api.ErrNet)
		for k := range workers {
			is(t, "All, the first ones slow, asked", w.count(k), 1)
		}
		_, inside := w.total()
		is(t, "All, the first ones slow, still asked", inside, 0)
	}
}

// The least key is quick, and the others take their time.
func TestP13_1_AllQuickLeast(t *testing.T) {
	for _, workers := range crews() {
		_, e := fetch.All(count(50), workers, func(k int) (string, api.Errno) {
			if k == 0 {
				return "", api.ErrNone
			}
			time.Sleep(pause)
			return "", api.ErrNet
		})
		isError(t, "All, the least quick", e, api.ErrNone)
		l, e := fetch.All(count(2*workers), workers, func(k int) (int, api.Errno) {
			time.Sleep(time.Duration(2*workers-k) % 7 * time.Millisecond / 2)
			return -k, api.OK
		})
		isError(t, "All, of unlike speed", e, api.OK)
		for k, r := range l {
			is(t, "All, of unlike speed", r, result(k, -k))
		}
	}
}

// So many goroutines ask at once, and no more.
func TestP13_1_SoManyAtOnce(t *testing.T) {
	for _, workers := range crews() {
		for name, call := range calls() {
			m := newMeet(workers)
			do, w := watched(func(int) (int, api.Errno) {
				is(t, name+", whether so many come", m.wait(), true)
				return 0, api.OK
			})
			e := call(count(workers), workers, do)
			isError(t, name+", at once", e, api.OK)
			is(t, name+", at once", w.peak, workers)
			do, w = watched(func(int) (int, api.Errno) {
				time.Sleep(pause / 5)
				return 0, api.OK
			})
			e = call(count(3*workers), workers, do)
			isError(t, name+", more keys than workers", e, api.OK)
			is(t, name+", more at once than workers", w.peak > workers, false)
		}
	}
}

// calls is the three calls, of what is done for numbers.
func calls() map[string]func(keys []int, workers int, do func(int) (int, api.Errno)) api.Errno {
	return map[string]func([]int, int, func(int) (int, api.Errno)) api.Errno{
		"All": func(keys []int, workers int, do func(int) (int, api.Errno)) api.Errno {
			_, e := fetch.All(keys, workers, do)
			return e
		},
		"Each": func(keys []int, workers int, do func(int) (int, api.Errno)) api.Errno {
			_, e := fetch.Each(keys, workers, do)
			return e
		},
		"Walk": func(keys []int, workers int, do func(int) (int, api.Errno)) api.Errno {
			_, e := fetch.Walk(keys, workers, api.MaxRecords, func(k int) ([]int, api.Errno) {
				_, e := do(k)
				return nil, e
			})
			return e
		},
	}
}
