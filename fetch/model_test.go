package fetch_test

import (
	"cmp"
	"maps"
	"math/rand"
	"slices"

	"mews/api"
	"mews/fetch"
)

// The chapter, written a second time: one by one.

// once is the keys of a list, each once, rising.
func once[K cmp.Ordered](keys []K) []K {
	there := map[K]bool{}
	for _, key := range keys {
		there[key] = true
	}
	return slices.Sorted(maps.Keys(there))
}

// modelEach is a loop over the keys, rising.
func modelEach[K cmp.Ordered, V any](keys []K, do func(K) (V, api.Errno)) []fetch.Result[K, V] {
	var list []fetch.Result[K, V]
	for _, key := range once(keys) {
		if v, e := do(key); e != api.OK {
			list = append(list, failed[K, V](key, e))
		} else {
			list = append(list, result(key, v))
		}
	}
	return list
}

// modelAll is a loop over the keys, rising, that stops at the first error:
// what it answers, and the keys that it asked.
func modelAll[K cmp.Ordered, V any](keys []K, do func(K) (V, api.Errno)) ([]fetch.Result[K, V], api.Errno, []K) {
	var list []fetch.Result[K, V]
	var asked []K
	for _, key := range once(keys) {
		asked = append(asked, key)
		v, e := do(key)
		if e != api.OK {
			return nil, e, asked
		}
		list = append(list, result(key, v))
	}
	return list, api.OK, asked
}

// modelWalk is a walk, round by round, one by one: what it answers, and the
// keys that each round asked.
func modelWalk[K cmp.Ordered](roots []K, most int, next func(K) ([]K, api.Errno)) ([]K, api.Errno, [][]K) {
	reached := map[K]bool{}
	var rounds [][]K
	for round := once(roots); len(round) > 0; {
		rounds = append(rounds, round)
		bad := api.OK
		var found []K
		for _, key := range round {
			reached[key] = true
			more, e := next(key)
			if e != api.OK && bad == api.OK {
				bad = e
			}
			found = append(found, more...)
		}
		if bad != api.OK {
			return nil, bad, rounds
		}
		round = nil
		for _, key := range once(found) {
			if !reached[key] {
				round = append(round, key)
			}
		}
		if len(reached)+len(round) > most {
			return nil, api.ErrMany, rounds
		}
	}
	return slices.Sorted(maps.Keys(reached)), api.OK, rounds
}

// graph is what is next to keys, and the errors of some.
type graph[K cmp.Ordered] struct {
	next map[K][]K
	errs map[K]api.Errno
}

// ask is a graph as what is done: something stands beside an error too.
func (g graph[K]) ask(key K) ([]K, api.Errno) { return g.next[key], g.errs[key] }

// drawGraph is a graph of so many keys, which name makes of numbers.
func drawGraph[K cmp.Ordered](r *rand.Rand, size int, name func(int) K) graph[K] {
	g := graph[K]{map[K][]K{}, map[K]api.Errno{}}
	wide, bad := r.Intn(4), r.Intn(3)
	for i := range size {
		var list []K
		for range r.Intn(wide + 1) {
			list = append(list, name(r.Intn(size)))
		}
		g.next[name(i)] = list
		if bad > 0 && r.Intn(size) < bad {
			g.errs[name(i)] = api.ErrName + api.Errno(r.Intn(20))
		}
	}
	return g
}

// drawKeys is some keys, some of them more than once.
func drawKeys[K cmp.Ordered](r *rand.Rand, most, size int, name func(int) K) []K {
	var keys []K
	for range r.Intn(most + 1) {
		keys = append(keys, name(r.Intn(size)))
	}
	return keys
}
