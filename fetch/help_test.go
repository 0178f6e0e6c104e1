package fetch_test

import (
	"cmp"
	"fmt"
	"slices"
	"sync"
	"testing"
	"time"

	"mews/api"
	"mews/fetch"
)

// patience is how long a test waits for what must come, ahead of failing.
const patience = 20 * time.Second

// pause is how long a test lets others go on.
const pause = 5 * time.Millisecond

// crews is the counts of workers that most tests try.
func crews() []int { return []int{1, 2, 3, 8, api.MaxWorkers - 1, api.MaxWorkers} }

// brief is how something is told where a test fails.
func brief(v any) string { return fmt.Sprintf("%.600s", fmt.Sprintf("%+v", v)) }

// is fails the test unless got is want.
func is[T comparable](t *testing.T, what string, got, want T) {
	t.Helper()
	if got != want {
		t.Errorf("%s: %s, not %s", what, brief(got), brief(want))
	}
}

// isError fails the test unless an error is the one that is asked.
func isError(t *testing.T, what string, got, want api.Errno) {
	t.Helper()
	is(t, what+", error", got, want)
}

// isList fails the test unless a list is the one that is asked.
func isList[T comparable](t *testing.T, what string, got, want []T) {
	t.Helper()
	if !slices.Equal(got, want) {
		t.Errorf("%s: %s, not %s", what, brief(got), brief(want))
	}
}

// result is what came of a key.
func result[K cmp.Ordered, V any](key K, v V) fetch.Result[K, V] {
	return fetch.Result[K, V]{Key: key, V: v}
}

// failed is a key's error.
func failed[K cmp.Ordered, V any](key K, e api.Errno) fetch.Result[K, V] {
	return fetch.Result[K, V]{Key: key, Err: e}
}

// square is a key's square, but ErrNone of 3 and ErrNet of 5, with something beside.
func square(k int) (int, api.Errno) {
	switch k {
	case 3:
		return 99, api.ErrNone
	case 5:
		return 99, api.ErrNet
	}
	return k * k, api.OK
}

// watch counts what is asked.
type watch[K comparable] struct {
	lock         sync.Mutex
	asked        map[K]int
	order        []K
	inside, peak int // asked right now; at once, at most
}

// enter counts a key that is asked.
func (w *watch[K]) enter(key K) {
	w.lock.Lock()
	defer w.lock.Unlock()
	w.asked[key]++
	w.order = append(w.order, key)
	w.inside++
	w.peak = max(w.peak, w.inside)
}

// leave counts an answer.
func (w *watch[K]) leave() {
	w.lock.Lock()
	defer w.lock.Unlock()
	w.inside--
}

// count is how often a key was asked.
func (w *watch[K]) count(key K) int {
	w.lock.Lock()
	defer w.lock.Unlock()
	return w.asked[key]
}

// total is how often anything was asked, and how much of it has no answer yet.
func (w *watch[K]) total() (asked, inside int) {
	w.lock.Lock()
	defer w.lock.Unlock()
	return len(w.order), w.inside
}

// watched is do, with what counts it.
func watched[K comparable, V any](do func(K) (V, api.Errno)) (func(K) (V, api.Errno), *watch[K]) {
	w := &watch[K]{asked: map[K]int{}}
	return func(key K) (V, api.Errno) {
		w.enter(key)
		defer w.leave()
		return do(key)
	}, w
}

// meet is where so many goroutines wait for one another.
type meet struct {
	lock  sync.Mutex
	there int
	all   chan struct{}
	count int
}

func newMeet(count int) *meet { return &meet{count: count, all: make(chan struct{})} }

// wait waits until all are there, and tells whether they came.
func (m *meet) wait() bool {
	m.lock.Lock()
	m.there++
	if m.there == m.count {
		close(m.all)
	}
	m.lock.Unlock()
	return came(m.all)
}

// came waits for a channel's close, and tells whether it came.
func came(c <-chan struct{}) bool {
	select {
	case <-c:
		return true
	case <-time.After(patience):
		return false
	}
}

// together runs so many goroutines that begin at once, and waits for them.
func together(count int, do func(i int)) {
	var group sync.WaitGroup
	begin := make(chan struct{})
	for i := range count {
		group.Add(1)
		go func() {
			defer group.Done()
			<-begin
			do(i)
		}()
	}
	close(begin)
	group.Wait()
}

// count is 0, 1, 2 ..
func count(to int) []int {
	list := make([]int, to)
	for i := range list {
		list[i] = i
	}
	return list
}

// falling is a list the other way round.
func falling[T any](list []T) []T {
	list = slices.Clone(list)
	slices.Reverse(list)
	return list
}
