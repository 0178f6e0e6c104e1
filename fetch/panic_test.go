package fetch_test

import (
	"math"
	"testing"

	"mews/api"
	"mews/fetch"
)

// bursts is what is done, but not as it promises: it panics at some keys.
func bursts(at ...int) func(int) (int, api.Errno) {
	return func(k int) (int, api.Errno) {
		for _, x := range at {
			if x == k {
				var none []int
				return none[k], api.OK
			}
		}
		return square(k)
	}
}

// A panic ends no call, and no program: it is an error of its key.
func TestP0_1_Panics(t *testing.T) {
	for _, do := range []func(int) (int, api.Errno){nil, bursts(0, 1, 2, 3)} {
		isAllNot(t, "at all", count(4), do, 0, api.ErrRange)
		isWalkNot(t, "at all", keys(1, 2), 9, func(k int) ([]int, api.Errno) {
			_, e := do(k)
			return nil, e
		}, api.ErrRange, keys(1, 2))
		o := fetch.NewOnce[int, int]()
		for range 3 {
			answers(t, "a panic", o, 1, func() (int, api.Errno) { return do(1) }, 0, api.ErrRange)
		}
	}
	isAll(t, "nil of no key", nil, (func(int) (int, api.Errno))(nil))
	isEach(t, "at some", count(6), bursts(1, 4), result(0, 0), failed[int, int](1, api.ErrRange), result(2, 4),
		failed[int, int](3, api.ErrNone), failed[int, int](4, api.ErrRange), failed[int, int](5, api.ErrNet))
	isAllNot(t, "behind an error", count(6), bursts(4), 3, api.ErrNone)
	isAllNot(t, "ahead of an error", count(6), bursts(2), 2, api.ErrRange)
	for _, workers := range crews() {
		_, e := fetch.Walk(keys(1), workers, 9, nil)
		isError(t, "Walk without next", e, api.ErrRange)
	}
	o := fetch.NewOnce[int, int]()
	answers(t, "nothing to do", o, 1, nil, 0, api.ErrRange)
	answers(t, "another key", o, 2, func() (int, api.Errno) { return 4, api.OK }, 4, api.OK)
	answers(t, "nothing to do, where it is known", o, 2, nil, 4, api.OK)
}

// Keys that are like no other, themselves too: nothing fails of them.
func TestP0_1_StrangeKeys(t *testing.T) {
	o := fetch.NewOnce[any, int]()
	strange := []any{[]int{1}, map[int]int{}, func() {}, math.NaN(), [1]any{[]int{}}}
	for i, key := range strange {
		for range 3 {
			answers(t, "a strange key", o, key, func() (int, api.Errno) { return i, api.OK }, i, api.OK)
		}
	}
	for i, key := range []any{nil, 1, "1", 1.5, [1]any{1}} {
		answers(t, "a key", o, key, func() (int, api.Errno) { return 100 + i, api.OK }, 100+i, api.OK)
		answers(t, "a key, again", o, key, nil, 100+i, api.OK)
	}
}
