package fetch_test

import (
	"slices"
	"strconv"
	"strings"
	"testing"
	"time"

	"mews/api"
	"mews/fetch"
)

// edges is a graph: each text is a key, a colon, and what is next to it, or an
// error's number behind an exclamation mark.
func edges(lines ...string) func(int) ([]int, api.Errno) {
	next := map[int][]int{}
	errs := map[int]api.Errno{}
	for _, line := range lines {
		name, rest, _ := strings.Cut(line, ":")
		key, _ := strconv.Atoi(name)
		for _, word := range strings.Fields(rest) {
			if bad, is := strings.CutPrefix(word, "!"); is {
				n, _ := strconv.Atoi(bad)
				errs[key] = api.Errno(n)
			} else {
				n, _ := strconv.Atoi(word)
				next[key] = append(next[key], n)
			}
		}
	}
	return func(k int) ([]int, api.Errno) { return next[k], errs[k] }
}

// isAsked fails the test unless a walk asked these keys, each once, those of a
// round in whatever order, behind those of the round ahead.
func isAsked(t *testing.T, what string, w *watch[int], rounds [][]int) {
	t.Helper()
	rest := slices.Clone(w.order)
	for _, round := range rounds {
		if len(rest) < len(round) {
			t.Errorf("%s: asked %s, of rounds %s", what, brief(w.order), brief(rounds))
			return
		}
		isList(t, what+", a round", slices.Sorted(slices.Values(rest[:len(round)])), round)
		rest = rest[len(round):]
	}
	is(t, what+", asked beyond", len(rest), 0)
}

// isWalk fails the test unless Walk answers these keys, and asked these rounds.
func isWalk(t *testing.T, what string, roots []int, most int, next func(int) ([]int, api.Errno), want []int, rounds ...[]int) {
	t.Helper()
	for _, workers := range crews() {
		next, w := watched(next)
		l, e := fetch.Walk(roots, workers, most, next)
		isError(t, what+", "+strconv.Itoa(workers)+" workers", e, api.OK)
		isList(t, what+", "+strconv.Itoa(workers)+" workers", l, want)
		isAsked(t, what, w, rounds)
	}
}

// isWalkNot fails the test unless Walk answers an error, and asked these rounds.
func isWalkNot(t *testing.T, what string, roots []int, most int, next func(int) ([]int, api.Errno), want api.Errno, rounds ...[]int) {
	t.Helper()
	for _, workers := range crews() {
		next, w := watched(next)
		l, e := fetch.Walk(roots, workers, most, next)
		isError(t, what+", "+strconv.Itoa(workers)+" workers", e, want)
		is(t, what+", keys", len(l), 0)
		isAsked(t, what, w, rounds)
	}
}

// keys is a list of keys.
func keys(list ...int) []int { return list }

func TestP13_2_Range(t *testing.T) {
	next, w := watched(edges("1: 2", "3: !4"))
	for _, roots := range [][]int{nil, {1}, {3}, {1, 2, 3}} {
		for _, workers := range append(badCrews(), 1, api.MaxWorkers) {
			for _, most := range []int{-1 << 63, -1, 0, 1, api.MaxRecords, api.MaxRecords + 1, 1<<63 - 1} {
				if slices.Contains(crews(), workers) && 1 <= most && most <= api.MaxRecords {
					continue
				}
				l, e := fetch.Walk(roots, workers, most, next)
				isError(t, "Walk, "+brief([]int{workers, most}), e, api.ErrRange)
				is(t, "Walk, keys", len(l), 0)
			}
		}
	}
	asked, _ := w.total()
	is(t, "asked", asked, 0)
}

func TestP13_2_Roots(t *testing.T) {
	next := edges("1: 2", "2: 3")
	isWalk(t, "nil", nil, 1, next, nil)
	isWalk(t, "no root", keys(), 1, next, nil)
	isWalk(t, "one alone", keys(7), 1, next, keys(7), keys(7))
	isWalk(t, "one", keys(1), 3, next, keys(1, 2, 3), keys(1), keys(2), keys(3))
	isWalk(t, "a root twice", keys(2, 1, 2, 1), 3, next, keys(1, 2, 3), keys(1, 2), keys(3))
	isWalk(t, "a root many times", slices.Repeat(keys(3), 1000), 1, next, keys(3), keys(3))
	isWalk(t, "roots that fall", keys(9, 8, 3, 0, -4), 5, next, keys(-4, 0, 3, 8, 9), keys(-4, 0, 3, 8, 9))
	isWalk(t, "all are roots", keys(3, 2, 1), 3, next, keys(1, 2, 3), keys(1, 2, 3))
	isWalk(t, "with MaxRecords", keys(1), api.MaxRecords, next, keys(1, 2, 3), keys(1), keys(2), keys(3))
}

func TestP13_2_Rounds(t *testing.T) {
	isWalk(t, "its own next", keys(1), 1, edges("1: 1 1"), keys(1), keys(1))
	isWalk(t, "a ring", keys(3), 4, edges("1: 2", "2: 3", "3: 4", "4: 1"), keys(1, 2, 3, 4), keys(3), keys(4), keys(1), keys(2))
	isWalk(t, "twice in one round", keys(1, 2), 3, edges("1: 5 5", "2: 5"), keys(1, 2, 5), keys(1, 2), keys(5))
	isWalk(t, "again in a later round", keys(1), 4, edges("1: 2 3", "2: 4 3", "3: 4 2", "4: 1 2 3 4"), keys(1, 2, 3, 4), keys(1), keys(2, 3), keys(4))
	isWalk(t, "again among the roots", keys(1, 2), 2, edges("1: 2", "2: 1"), keys(1, 2), keys(1, 2))
	isWalk(t, "nearer by another way", keys(1), 6, edges("1: 9 2", "2: 3", "3: 4", "9: 4", "4: 0"), keys(0, 1, 2, 3, 4, 9), keys(1), keys(2, 9), keys(3, 4), keys(0))
	var chain [][]int
	for k := range 300 {
		chain = append(chain, keys(k))
	}
	isWalk(t, "a chain", keys(0), 300, func(k int) ([]int, api.Errno) { return keys(min(k+1, 299)), api.OK }, count(300), chain...)
	isWalk(t, "all at once", keys(0), 300, func(k int) ([]int, api.Errno) { return falling(count(300)), api.OK }, count(300), keys(0), count(300)[1:])
}

// A round begins when the one ahead has ended, also where that is slow.
func TestP13_2_RoundByRound(t *testing.T) {
	depth := func(k int) int { return len(strconv.Itoa(k)) }
	for _, workers := range crews() {
		next, slow := watched(func(k int) ([]int, api.Errno) {
			if k%10 == 1 {
				time.Sleep(pause)
			}
			if depth(k) == 3 {
				return nil, api.OK
			}
			return keys(10*k+1, 10*k+2, 10*k+3), api.OK
		})
		l, e := fetch.Walk(keys(3, 2, 1), workers, 1000, next)
		isError(t, "Walk", e, api.OK)
		is(t, "Walk, keys", len(l), 39)
		is(t, "Walk, whether it goes by rounds", slices.IsSortedFunc(slow.order, func(a, b int) int { return depth(a) - depth(b) }), true)
	}
}

func TestP13_2_Most(t *testing.T) {
	next := edges("1: 2 3", "2: 4", "3: 5")
	isWalk(t, "just most", keys(1), 5, next, keys(1, 2, 3, 4, 5), keys(1), keys(2, 3), keys(4, 5))
	isWalkNot(t, "one more", keys(1), 4, next, api.ErrMany, keys(1), keys(2, 3))
	isWalkNot(t, "in the first round", keys(1), 2, next, api.ErrMany, keys(1))
	isWalkNot(t, "in the first round, 1", keys(1), 1, next, api.ErrMany, keys(1))
	isWalk(t, "just the roots", keys(5, 4), 2, next, keys(4, 5), keys(4, 5))
	isWalkNot(t, "more roots", keys(5, 4, 4), 1, next, api.ErrMany, keys(4, 5))
	isWalk(t, "the same root", keys(4, 4), 1, next, keys(4), keys(4))
	isWalk(t, "the same again", keys(1), 1, edges("1: 1 1 1"), keys(1), keys(1))
	isWalkNot(t, "an end that never comes", keys(0), 1000, func(k int) ([]int, api.Errno) { return keys(2*k+1, 2*k+2), api.OK },
		api.ErrMany, binary(9)...)
}

// binary is the first rounds of a tree of 2k+1 and 2k+2.
func binary(rounds int) [][]int {
	var list [][]int
	for i := range rounds {
		round := count(2<<i - 1)
		list = append(list, round[1<<i-1:])
	}
	return list
}

// The greatest most there may be, and one key more.
func TestP13_2_MaxRecords(t *testing.T) {
	wide := func(last int) func(k int) ([]int, api.Errno) {
		return func(k int) ([]int, api.Errno) {
			if k > 0 {
				return nil, api.OK
			}
			return count(last + 1), api.OK
		}
	}
	l, e := fetch.Walk(keys(0), 8, api.MaxRecords, wide(api.MaxRecords-1))
	isError(t, "just so many", e, api.OK)
	is(t, "just so many", len(l), api.MaxRecords)
	is(t, "just so many, rising", slices.IsSorted(l), true)
	next, w := watched(wide(api.MaxRecords))
	l, e = fetch.Walk(keys(0), 8, api.MaxRecords, next)
	isError(t, "one more", e, api.ErrMany)
	is(t, "one more", len(l), 0)
	asked, _ := w.total()
	is(t, "one more, asked", asked, 1)
	l, e = fetch.Walk(count(api.MaxRecords+1), 8, api.MaxRecords, func(int) ([]int, api.Errno) { return nil, api.OK })
	isError(t, "as roots", e, api.ErrMany)
	is(t, "as roots", len(l), 0)
}

func TestP13_2_Errors(t *testing.T) {
	isWalkNot(t, "of a root", keys(1), 9, edges("1: !2"), 2, keys(1))
	isWalkNot(t, "of several in one round, each asked", keys(5, 4, 3, 2), 9, edges("2: 7", "3: !30 8", "4: !4", "5: !5"), 30, keys(2, 3, 4, 5))
	isWalkNot(t, "of all", keys(3, 1, 2), 9, edges("1: !9", "2: !8", "3: !7"), 9, keys(1, 2, 3))
	isWalkNot(t, "in a later round alone", keys(1), 9, edges("1: 2", "2: 0 3", "3: !6", "0: 4"), 6, keys(1), keys(2), keys(0, 3))
	isWalkNot(t, "of a round ahead of a less one", keys(5), 9, edges("5: 1 6", "6: !6", "1: 0", "0: !7"), 6, keys(5), keys(1, 6))
	isWalkNot(t, "of several in a later round", keys(9), 9, edges("9: 8 7 6", "8: !8", "7: !17", "6: 9"), 17, keys(9), keys(6, 7, 8))
	isWalkNot(t, "below 0", keys(1), 9, edges("1: !-1"), -1, keys(1))
}

// Each round's errors come ahead of ErrMany, and ErrMany of those of the next one.
func TestP13_2_ErrorsAndMany(t *testing.T) {
	isWalkNot(t, "more roots, and an error", keys(1, 2), 1, edges("2: !2"), 2, keys(1, 2))
	isWalkNot(t, "in the same round", keys(1), 3, edges("1: 2 3", "2: 4 5 6", "3: !3"), 3, keys(1), keys(2, 3))
	isWalkNot(t, "an error beside too many", keys(1), 3, edges("1: !5 2 3 4 5"), 5, keys(1))
	isWalkNot(t, "an error in the next round", keys(1), 2, edges("1: 2 3", "2: !2", "3: !3"), api.ErrMany, keys(1))
	isWalkNot(t, "an error in the next round, of a greater one", keys(1), 3, edges("1: 2", "2: 3 4", "3: !3"), api.ErrMany, keys(1), keys(2))
	isWalkNot(t, "an error, just most", keys(1), 3, edges("1: 2 3", "3: !3"), 3, keys(1), keys(2, 3))
	isWalkNot(t, "next's own ErrMany", keys(1), 9, edges("1: !"+strconv.Itoa(int(api.ErrMany))), api.ErrMany, keys(1))
}

func TestP13_2_Slow(t *testing.T) {
	for _, workers := range crews() {
		for _, slow := range []int{2, 9} {
			_, e := fetch.Walk(keys(1), workers, 20, func(k int) ([]int, api.Errno) {
				if k == slow {
					time.Sleep(pause)
				}
				if k == 1 {
					return keys(9, 8, 7, 6, 5, 4, 3, 2), api.OK
				}
				return nil, api.Errno(k)
			})
			isError(t, "Walk, slow at "+strconv.Itoa(slow), e, 2)
		}
	}
}

func TestP13_2_Strings(t *testing.T) {
	// Each text's next ones are the text with a letter off either end.
	next := func(k string) ([]string, api.Errno) {
		if k == "" {
			return nil, api.OK
		}
		return []string{k[1:], k[:len(k)-1]}, api.OK
	}
	for _, workers := range crews() {
		l, e := fetch.Walk([]string{"abc", "b"}, workers, 7, next)
		isError(t, "Walk", e, api.OK)
		isList(t, "Walk", l, []string{"", "a", "ab", "abc", "b", "bc", "c"})
		_, e = fetch.Walk([]string{"abc", "b"}, workers, 6, next)
		isError(t, "Walk", e, api.ErrMany)
	}
}
