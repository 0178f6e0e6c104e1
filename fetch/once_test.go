package fetch_test

import (
	"math"
	"strconv"
	"sync"
	"sync/atomic"
	"testing"
	"time"

	"mews/api"
	"mews/fetch"
)

// says is what answers this, and counts how often it is asked.
func says[V any](v V, e api.Errno) (func() (V, api.Errno), *atomic.Int64) {
	var asked atomic.Int64
	return func() (V, api.Errno) {
		asked.Add(1)
		return v, e
	}, &asked
}

// answers fails the test unless Do answers this.
func answers[K, V comparable](t *testing.T, what string, o *fetch.Once[K, V], key K, do func() (V, api.Errno), want V, wantError api.Errno) {
	t.Helper()
	v, e := o.Do(key, do)
	is(t, "Do, "+what, v, want)
	isError(t, "Do, "+what, e, wantError)
}

func TestP13_3_Do(t *testing.T) {
	o := fetch.NewOnce[string, int]()
	is(t, "Len of nothing", o.Len(), 0)
	first, asked := says(7, api.OK)
	second, notAsked := says(8, api.OK)
	bad, notAskedEither := says(9, api.ErrNet)
	answers(t, "first", o, "a", first, 7, api.OK)
	is(t, "Len", o.Len(), 1)
	for range 3 {
		answers(t, "again", o, "a", first, 7, api.OK)
		answers(t, "again, of another", o, "a", second, 7, api.OK)
		answers(t, "again, of an error", o, "a", bad, 7, api.OK)
	}
	is(t, "asked", asked.Load(), 1)
	is(t, "asked, the others", notAsked.Load()+notAskedEither.Load(), 0)
	is(t, "Len, again", o.Len(), 1)
	answers(t, "another key", o, "", second, 8, api.OK)
	answers(t, "another key again", o, "", first, 8, api.OK)
	is(t, "Len of two", o.Len(), 2)
	is(t, "Len of another one", fetch.NewOnce[string, int]().Len(), 0)
}

func TestP13_3_Error(t *testing.T) {
	o := fetch.NewOnce[int, string]()
	bad, asked := says("beside", api.ErrNone)
	good, notAsked := says("good", api.OK)
	worse, notAskedEither := says("worse", api.ErrForm)
	answers(t, "an error", o, 1, bad, "", api.ErrNone)
	is(t, "Len behind an error", o.Len(), 1)
	for range 3 {
		answers(t, "an error again", o, 1, bad, "", api.ErrNone)
		answers(t, "an error again, of what has none", o, 1, good, "", api.ErrNone)
		answers(t, "an error again, of another", o, 1, worse, "", api.ErrNone)
	}
	is(t, "asked", asked.Load(), 1)
	is(t, "asked, the others", notAsked.Load()+notAskedEither.Load(), 0)
	answers(t, "another key", o, 2, good, "good", api.OK)
	answers(t, "the zero value", o, 3, func() (string, api.Errno) { return "", api.OK }, "", api.OK)
	answers(t, "the zero value again", o, 3, good, "", api.OK)
	is(t, "Len", o.Len(), 3)
	lists := fetch.NewOnce[int, []int]()
	for range 2 {
		l, e := lists.Do(1, func() ([]int, api.Errno) { return []int{1}, api.ErrNet })
		isError(t, "Do of lists", e, api.ErrNet)
		is(t, "Do of lists, nothing beside", len(l), 0)
	}
}

// Several that are there at once know nothing of one another.
func TestP13_3_Apart(t *testing.T) {
	a, b := fetch.NewOnce[int, int](), fetch.NewOnce[int, int]()
	for k := range 100 {
		answers(t, "of a", a, k, func() (int, api.Errno) { return k, api.OK }, k, api.OK)
		is(t, "Len of a", a.Len(), k+1)
		is(t, "Len of b", b.Len(), k)
		answers(t, "of b", b, k, func() (int, api.Errno) { return -k, api.OK }, -k, api.OK)
	}
}

func TestP13_3_Kinds(t *testing.T) {
	type pair struct {
		path string
		n    [2]int
	}
	o := fetch.NewOnce[pair, float64]()
	answers(t, "a pair", o, pair{"a", [2]int{1, 2}}, func() (float64, api.Errno) { return math.Inf(1), api.OK }, math.Inf(1), api.OK)
	answers(t, "the same pair", o, pair{"a", [2]int{1, 2}}, func() (float64, api.Errno) { return 0, api.OK }, math.Inf(1), api.OK)
	answers(t, "another pair", o, pair{"a", [2]int{2, 1}}, func() (float64, api.Errno) { return 0, api.OK }, 0, api.OK)
	is(t, "Len", o.Len(), 2)
	m := fetch.NewOnce[api.Mod, bool]()
	answers(t, "a module", m, api.Mod{Path: "a", Version: "b"}, func() (bool, api.Errno) { return true, api.OK }, true, api.OK)
	answers(t, "the same module", m, api.Mod{Path: "a", Version: "b"}, func() (bool, api.Errno) { return false, api.OK }, true, api.OK)
	answers(t, "another module", m, api.Mod{Path: "ab"}, func() (bool, api.Errno) { return false, api.OK }, false, api.OK)
}

// Len counts what has an answer, not what is being asked.
func TestP13_3_Len(t *testing.T) {
	o := fetch.NewOnce[int, int]()
	for k := range 10 {
		is(t, "Len ahead", o.Len(), k)
		answers(t, "Len asked in between", o, k, func() (int, api.Errno) { return o.Len(), api.Errno(k % 2) }, k*(1-k%2), api.Errno(k%2))
		is(t, "Len behind", o.Len(), k+1)
	}
	begun, going := make(chan struct{}), make(chan struct{})
	var group sync.WaitGroup
	group.Add(1)
	go func() {
		defer group.Done()
		o.Do(99, func() (int, api.Errno) {
			close(begun)
			return 0, map[bool]api.Errno{false: api.ErrNet}[came(going)]
		})
	}()
	is(t, "whether it begins", came(begun), true)
	is(t, "Len, while one is asked", o.Len(), 10)
	answers(t, "another, while one is asked", o, 100, func() (int, api.Errno) { return 1, api.OK }, 1, api.OK)
	answers(t, "a known one, while one is asked", o, 0, func() (int, api.Errno) { return 5, api.OK }, 0, api.OK)
	is(t, "Len, while one is asked", o.Len(), 11)
	close(going)
	group.Wait()
	is(t, "Len, behind all", o.Len(), 12)
	answers(t, "the one that was asked", o, 99, func() (int, api.Errno) { return 5, api.OK }, 0, api.OK)
}

// What is done may ask for another key.
func TestP13_3_Nested(t *testing.T) {
	o := fetch.NewOnce[int, int]()
	asked := 0
	var sum func(k int) (int, api.Errno)
	sum = func(k int) (int, api.Errno) {
		return o.Do(k, func() (int, api.Errno) {
			asked++
			if k == 0 {
				return 0, api.OK
			}
			rest, e := sum(k - 1)
			return k + rest, e
		})
	}
	for range 2 {
		v, e := sum(100)
		is(t, "a sum", v, 5050)
		isError(t, "a sum", e, api.OK)
	}
	is(t, "asked", asked, 101)
	is(t, "Len", o.Len(), 101)
}

// One asks; the others wait for its answer, however long it takes.
func TestP13_3_OthersWait(t *testing.T) {
	for _, want := range []struct {
		v int
		e api.Errno
	}{{7, api.OK}, {0, api.ErrNet}} {
		for range 5 {
			o := fetch.NewOnce[string, int]()
			var asked atomic.Int64
			var ready atomic.Bool
			together(64, func(i int) {
				v, e := o.Do("a", func() (int, api.Errno) {
					asked.Add(1)
					time.Sleep(pause)
					ready.Store(true)
					return 7, want.e
				})
				is(t, "whether the answer was there", ready.Load(), true)
				is(t, "the answer to all", v, want.v)
				isError(t, "the answer to all", e, want.e)
				is(t, "Len behind an answer", o.Len(), 1)
			})
			is(t, "asked", asked.Load(), 1)
		}
	}
}

// Whoever asks for one key does not wait for those that ask for others.
func TestP13_3_ManyKeys(t *testing.T) {
	const size = 32
	o := fetch.NewOnce[string, string]()
	m := newMeet(size)
	do, w := watched(func(key string) (string, api.Errno) {
		is(t, "whether all keys are asked at once", m.wait(), true)
		return key + key, api.OK
	})
	together(4*size, func(i int) {
		key := strconv.Itoa(i % size)
		answers(t, key, o, key, func() (string, api.Errno) { return do(key) }, key+key, api.OK)
		is(t, "whether Len is a count", o.Len() >= 1 && o.Len() <= size, true)
	})
	for i := range size {
		is(t, "asked", w.count(strconv.Itoa(i)), 1)
	}
	is(t, "Len", o.Len(), size)
}

// Keys that are asked by several workers of the package's other calls.
func TestP13_3_Workers(t *testing.T) {
	o := fetch.NewOnce[int, int]()
	do, w := watched(square)
	for range 3 {
		l, e := fetch.Each(count(200), 16, func(k int) (int, api.Errno) {
			return o.Do(k%10, func() (int, api.Errno) { return do(k % 10) })
		})
		isError(t, "Each", e, api.OK)
		for k, r := range l {
			v, e := square(k % 10)
			if e != api.OK {
				v = 0
			}
			is(t, "Each", r, fetch.Result[int, int]{Key: k, V: v, Err: e})
		}
	}
	for k := range 10 {
		is(t, "asked", w.count(k), 1)
	}
	is(t, "Len", o.Len(), 10)
}
