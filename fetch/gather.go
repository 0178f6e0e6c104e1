package fetch

import (
	"cmp"
	"slices"
	"sync"

	"mews/api"
)

// How far keys are asked.
const (
	toTheLast  = iota // each one
	untilError        // no more behind an error, but each that is less
)

// shop is where workers take keys and lay down results.
type shop[K cmp.Ordered, V any] struct {
	keys    chan K
	results chan Result[K, V]
	end     chan struct{} // closed where no more keys are to be asked
	ending  sync.Once
}

// open makes a shop with keys, which rise: so each key that is less than one
// that was taken was taken too. There is room for all results, so that no
// worker waits to lay one down.
func open[K cmp.Ordered, V any](keys []K) *shop[K, V] {
	s := &shop[K, V]{
		keys:    make(chan K, len(keys)),
		results: make(chan Result[K, V], len(keys)),
		end:     make(chan struct{}),
	}
	for _, key := range keys {
		s.keys <- key
	}
	close(s.keys)
	return s
}

// gather is what do answers for keys, which rise, each once.
func gather[K cmp.Ordered, V any](keys []K, workers, far int, do func(K) (V, api.Errno)) []Result[K, V] {
	s := open[K, V](keys)
	var group sync.WaitGroup
	for range min(workers, len(keys)) {
		group.Add(1)
		go func() {
			defer group.Done()
			s.work(far, do)
		}()
	}
	group.Wait()
	close(s.results)
	return s.told()
}

// work asks for keys until there are none, or the end comes. A key that was
// taken is asked whatever comes meanwhile, since it may be the least that has
// an error.
func (s *shop[K, V]) work(far int, do func(K) (V, api.Errno)) {
	for {
		select {
		case <-s.end:
			return
		case key, there := <-s.keys:
			if !there {
				return
			}
			v, e := ask(func() (V, api.Errno) { return do(key) })
			s.results <- Result[K, V]{Key: key, V: v, Err: e}
			if e != api.OK && far == untilError {
				s.ending.Do(func() { close(s.end) })
			}
		}
	}
}

// told is all results, rising by key, once no worker lays one down any more.
func (s *shop[K, V]) told() []Result[K, V] {
	results := make([]Result[K, V], 0, len(s.results))
	for r := range s.results {
		results = append(results, r)
	}
	slices.SortFunc(results, func(a, b Result[K, V]) int { return cmp.Compare(a.Key, b.Key) })
	return results
}

// ask is what do answers, with no value beside an error. What is done is
// not to panic; where it does all the same, it is an error: in a worker nobody
// else could catch it.
func ask[V any](do func() (V, api.Errno)) (v V, e api.Errno) {
	defer func() {
		if recover() != nil {
			e = api.ErrRange
		}
	}()
	got, e := do()
	if e == api.OK {
		v = got
	}
	return v, e
}
