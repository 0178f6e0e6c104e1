package fetch

import (
	"cmp"
	"slices"

	"mews/api"
)

// Walk tells what is reached.
func Walk[K cmp.Ordered](roots []K, workers, most int, next func(K) ([]K, api.Errno)) ([]K, api.Errno) {
	if !mayWork(workers) || most < 1 || most > api.MaxRecords {
		return nil, api.ErrRange
	}
	// What next answers is its own, so it is copied as soon as it is there.
	copied := func(key K) ([]K, api.Errno) {
		keys, e := next(key)
		return slices.Clone(keys), e
	}
	r := reached[K]{known: map[K]struct{}{}}
	r.add(roots)
	for asked := 0; asked < len(r.keys); {
		results := gather(rising(r.keys[asked:]), workers, toTheLast, copied)
		if e := leastError(results); e != api.OK {
			return nil, e
		}
		asked = len(r.keys)
		for _, found := range results {
			r.add(found.V)
		}
		if len(r.keys) > most {
			return nil, api.ErrMany
		}
	}
	return rising(r.keys), api.OK
}

// reached is the keys that are reached, each once, as they came.
type reached[K cmp.Ordered] struct {
	keys  []K
	known map[K]struct{}
	nan   bool // a map does not find NaN again
}

func (r *reached[K]) add(keys []K) {
	for _, key := range keys {
		if !r.has(key) {
			r.put(key)
		}
	}
}

func (r *reached[K]) has(key K) bool {
	if key != key {
		return r.nan
	}
	_, there := r.known[key]
	return there
}

func (r *reached[K]) put(key K) {
	r.keys = append(r.keys, key)
	if key != key {
		r.nan = true
		return
	}
	r.known[key] = struct{}{}
}
