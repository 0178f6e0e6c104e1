package fetch_test

import (
	"testing"

	"mews/api"
	"mews/fetch"
)

// below6 is 2 k and 2 k + 1 as far as they are below 6.
func below6(k int) ([]int, api.Errno) {
	var list []int
	for _, x := range []int{2 * k, 2*k + 1} {
		if x < 6 {
			list = append(list, x)
		}
	}
	return list, api.OK
}

func TestExamplesAll(t *testing.T) {
	l, e := fetch.All([]int{2, 1, 2}, 4, square)
	isError(t, "All((2 1 2), 4)", e, api.OK)
	isList(t, "All((2 1 2), 4)", l, []fetch.Result[int, int]{result(1, 1), result(2, 4)})
	for _, x := range []struct {
		keys    []int
		workers int
		want    api.Errno
	}{
		{[]int{5, 1, 3}, 2, api.ErrNone},
		{[]int{5, 4}, 1, api.ErrNet},
		{[]int{1}, 0, api.ErrRange},
	} {
		l, e := fetch.All(x.keys, x.workers, square)
		isError(t, "All, "+brief(x), e, x.want)
		is(t, "All, "+brief(x), len(l), 0)
	}
	l, e = fetch.Each([]int{5, 2}, 8, square)
	isError(t, "Each((5 2), 8)", e, api.OK)
	isList(t, "Each((5 2), 8)", l, []fetch.Result[int, int]{result(2, 4), failed[int, int](5, api.ErrNet)})
}

func TestExamplesWalk(t *testing.T) {
	l, e := fetch.Walk([]int{1}, 3, 10, below6)
	isError(t, "Walk((1), 3, 10)", e, api.OK)
	isList(t, "Walk((1), 3, 10)", l, []int{1, 2, 3, 4, 5})
	l, e = fetch.Walk([]int{1}, 3, 4, below6)
	isError(t, "Walk((1), 3, 4)", e, api.ErrMany)
	is(t, "Walk((1), 3, 4)", len(l), 0)
	l, e = fetch.Walk([]int{1}, 3, 10, func(k int) ([]int, api.Errno) {
		if k == 2 {
			return nil, api.ErrNone
		}
		return below6(k)
	})
	isError(t, "Walk((1), 3, 10), ErrNone for 2", e, api.ErrNone)
	is(t, "Walk((1), 3, 10), ErrNone for 2", len(l), 0)
}
