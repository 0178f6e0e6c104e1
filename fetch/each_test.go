package fetch_test

import (
	"slices"
	"strconv"
	"testing"
	"time"

	"mews/api"
	"mews/fetch"
)

// isEach fails the test unless Each answers these results, with each key asked once.
func isEach[V comparable](t *testing.T, what string, keys []int, do func(int) (V, api.Errno), want ...fetch.Result[int, V]) {
	t.Helper()
	for _, workers := range crews() {
		do, w := watched(do)
		l, e := fetch.Each(keys, workers, do)
		isError(t, what+", "+strconv.Itoa(workers)+" workers", e, api.OK)
		isList(t, what+", "+strconv.Itoa(workers)+" workers", l, want)
		for _, key := range keys {
			is(t, what+", asked", w.count(key), 1)
		}
	}
}

func TestP13_1_EachKeys(t *testing.T) {
	isEach(t, "nil", nil, square)
	isEach(t, "no key", []int{}, square)
	isEach(t, "one key", []int{-7}, square, result(-7, 49))
	isEach(t, "the same key", slices.Repeat([]int{4}, 1000), square, result(4, 16))
	isEach(t, "keys that fall", []int{4, 2, 1, 1, 0, -1}, square, result(-1, 1), result(0, 0), result(1, 1), result(2, 4), result(4, 16))
	for _, workers := range crews() {
		l, e := fetch.Each([]string{"b", "", "a", "b"}, workers, func(k string) (int, api.Errno) {
			if k == "a" {
				return 1, api.ErrForm
			}
			return len(k), api.OK
		})
		isError(t, "Each of strings", e, api.OK)
		isList(t, "Each of strings", l, []fetch.Result[string, int]{result("", 0), failed[string, int]("a", api.ErrForm), result("b", 1)})
	}
}

// No error keeps another key from being asked; beside one there is nothing.
func TestP13_1_EachErrors(t *testing.T) {
	isEach(t, "some", []int{5, 4, 3, 2, 3}, square, result(2, 4), failed[int, int](3, api.ErrNone), result(4, 16), failed[int, int](5, api.ErrNet))
	for _, size := range []int{1, 2, 64, 65, 300} {
		last := size - 1
		for _, bad := range [][]int{nil, {0}, {last}, {size / 2}, {size / 3, size / 2, last}, count(size)} {
			var want []fetch.Result[int, string]
			for k := range size {
				if slices.Contains(bad, k) {
					want = append(want, failed[int, string](k, api.Errno(1+k)))
				} else {
					want = append(want, result(k, strconv.Itoa(k)))
				}
			}
			isEach(t, "errors of "+brief(bad), count(size), errorAt(bad...), want...)
			isEach(t, "errors of "+brief(bad)+", falling", falling(count(size)), errorAt(bad...), want...)
		}
	}
}

// Lists, too, are nothing beside an error.
func TestP13_1_EachNothingBeside(t *testing.T) {
	l, e := fetch.Each(count(9), 3, func(k int) ([]int, api.Errno) { return []int{k}, api.Errno(k % 3) })
	isError(t, "Each", e, api.OK)
	is(t, "Each", len(l), 9)
	for k, r := range l {
		is(t, "Each, the key", r.Key, k)
		isError(t, "Each, the key's", r.Err, api.Errno(k%3))
		is(t, "Each, the key's list", brief(r.V), map[bool]string{true: brief([]int{k}), false: "[]"}[k%3 == 0])
	}
}

func TestP13_1_EachSpeed(t *testing.T) {
	for _, workers := range crews() {
		for _, slow := range []int{0, 1, 29, 30} {
			l, e := fetch.Each(count(30), workers, func(k int) (int, api.Errno) {
				if k == slow {
					time.Sleep(pause)
				}
				return k, api.Errno(k % 2)
			})
			isError(t, "Each", e, api.OK)
			isList(t, "Each", l, modelEach(count(30), func(k int) (int, api.Errno) { return k, api.Errno(k % 2) }))
		}
	}
}
