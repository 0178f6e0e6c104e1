package fetch_test

import (
	"cmp"
	"math"
	"math/rand"
	"runtime"
	"slices"
	"strconv"
	"testing"

	"mews/api"
	"mews/fetch"
)

// jostled is do with other goroutines let ahead now and then, which changes
// nothing but the order.
func jostled[K comparable, V any](seed int64, do func(K) (V, api.Errno)) (func(K) (V, api.Errno), *watch[K]) {
	do, w := watched(do)
	return func(key K) (V, api.Errno) {
		for range seed % 5 {
			runtime.Gosched()
		}
		return do(key)
	}, w
}

// asIs, named and fallingName are names of numbers.
func asIs(k int) int           { return k }
func named(k int) string       { return strconv.Itoa(k) }
func fallingName(k int) uint16 { return uint16(-k) }

// draws tries what is drawn from many seeds, of keys of several kinds.
func draws(t *testing.T, tries int64, ints func(r *rand.Rand, seed int64), texts func(r *rand.Rand, seed int64), small func(r *rand.Rand, seed int64)) {
	t.Helper()
	for seed := range tries {
		ints(rand.New(rand.NewSource(seed)), seed)
		texts(rand.New(rand.NewSource(seed)), seed)
		small(rand.New(rand.NewSource(seed)), seed)
		if t.Failed() {
			t.Fatalf("seed %d", seed)
		}
	}
}

// tryLists draws keys and errors, and holds All and Each against a loop.
func tryLists[K cmp.Ordered](t *testing.T, r *rand.Rand, seed int64, name func(int) K) {
	t.Helper()
	size := 1 + r.Intn(100)
	list := drawKeys(r, 2*size, size, name)
	errs := map[K]api.Errno{}
	for range r.Intn(4) * r.Intn(3) {
		errs[name(r.Intn(size))] = api.ErrName + api.Errno(r.Intn(30))
	}
	do := func(key K) (K, api.Errno) { return key, errs[key] }
	want, wantError, wantAsked := modelAll(list, do)
	wantEach := modelEach(list, do)
	for _, workers := range []int{1, 2, 1 + r.Intn(api.MaxWorkers), api.MaxWorkers} {
		do, w := jostled(seed, do)
		l, e := fetch.All(list, workers, do)
		isError(t, "All", e, wantError)
		isList(t, "All", l, want)
		for _, key := range wantAsked {
			is(t, "All, asked", w.count(key), 1)
		}
		for _, key := range list {
			is(t, "All, asked more than once", w.count(key) > 1, false)
		}
		do, w = jostled(seed, do)
		l, e = fetch.Each(list, workers, do)
		isError(t, "Each", e, api.OK)
		isList(t, "Each", l, wantEach)
		for _, key := range list {
			is(t, "Each, asked", w.count(key), 1)
		}
	}
}

func TestP13_7_Lists(t *testing.T) {
	draws(t, 300,
		func(r *rand.Rand, seed int64) { tryLists(t, r, seed, asIs) },
		func(r *rand.Rand, seed int64) { tryLists(t, r, seed, named) },
		func(r *rand.Rand, seed int64) { tryLists(t, r, seed, fallingName) })
}

// tryWalk draws a graph, and holds Walk against a walk one by one.
func tryWalk[K cmp.Ordered](t *testing.T, r *rand.Rand, seed int64, name func(int) K) api.Errno {
	t.Helper()
	size := 1 + r.Intn(60)
	g := drawGraph(r, size, name)
	roots := drawKeys(r, 5, size, name)
	most := 1 + r.Intn(size+10)
	want, wantError, rounds := modelWalk(roots, most, g.ask)
	for _, workers := range []int{1, 2, 1 + r.Intn(api.MaxWorkers), api.MaxWorkers} {
		next, w := jostled(seed, g.ask)
		l, e := fetch.Walk(roots, workers, most, next)
		isError(t, "Walk", e, wantError)
		isList(t, "Walk", l, want)
		sum := 0
		for _, round := range rounds {
			sum += len(round)
			for _, key := range round {
				is(t, "Walk, asked", w.count(key), 1)
			}
		}
		asked, inside := w.total()
		is(t, "Walk, asked in all", asked, sum)
		is(t, "Walk, still asked", inside, 0)
	}
	return wantError
}

func TestP13_7_Walk(t *testing.T) {
	seen := map[string]int{}
	count := func(e api.Errno) {
		switch e {
		case api.OK:
			seen["good"]++
		case api.ErrMany:
			seen["many"]++
		default:
			seen["bad"]++
		}
	}
	draws(t, 500,
		func(r *rand.Rand, seed int64) { count(tryWalk(t, r, seed, asIs)) },
		func(r *rand.Rand, seed int64) { count(tryWalk(t, r, seed, named)) },
		func(r *rand.Rand, seed int64) { count(tryWalk(t, r, seed, fallingName)) })
	for _, kind := range []string{"good", "many", "bad"} {
		is(t, "whether there are some, "+kind, seen[kind] > 50, true)
	}
}

// The same for each count of workers there may be, and again and again.
func TestP13_5_Same(t *testing.T) {
	r := rand.New(rand.NewSource(5))
	g := drawGraph(r, 100, asIs)
	for g.errs = nil; ; g = drawGraph(r, 100, asIs) {
		if l, e, _ := modelWalk(keys(0, 1), 100, g.ask); e == api.OK && len(l) > 60 {
			break
		}
	}
	bad := graph[int]{g.next, map[int]api.Errno{60: api.ErrNet, 61: api.ErrNone, 99: api.ErrForm}}
	list := falling(count(100))
	for _, g := range []graph[int]{g, bad} {
		do := func(k int) (int, api.Errno) { return -k, g.errs[k] }
		want, wantError, _ := modelAll(list, do)
		wantEach := modelEach(list, do)
		wantKeys, wantWalk, _ := modelWalk(keys(0, 1), 100, g.ask)
		for workers := 1; workers <= api.MaxWorkers; workers++ {
			l, e := fetch.All(list, workers, do)
			isError(t, "All", e, wantError)
			isList(t, "All", l, want)
			l, e = fetch.Each(list, workers, do)
			isError(t, "Each", e, api.OK)
			isList(t, "Each", l, wantEach)
			m, e := fetch.Walk(keys(0, 1), workers, 100, g.ask)
			isError(t, "Walk", e, wantWalk)
			isList(t, "Walk", m, wantKeys)
		}
	}
}

// No call keeps anything for the next one; only Once does.
func TestP13_6_OnceACall(t *testing.T) {
	for name, call := range calls() {
		do, w := watched(square)
		list := append(count(3), count(3)...)
		for again := 1; again <= 3; again++ {
			isError(t, name, call(list, 4, do), api.OK)
			for k := range 3 {
				is(t, name+", asked", w.count(k), again)
			}
		}
	}
	o := fetch.NewOnce[int, int]()
	do, w := watched(square)
	for range 3 {
		for name, call := range calls() {
			call(count(9), 4, func(k int) (int, api.Errno) {
				return o.Do(k, func() (int, api.Errno) { return do(k) })
			})
			for k := range 4 {
				is(t, name+" by Once, asked", w.count(k), 1)
			}
		}
	}
}

// Several calls at once, one within another too.
func TestP13_5_CallsAtOnce(t *testing.T) {
	together(16, func(i int) {
		l, e := fetch.All(falling(count(20)), 1+i, func(k int) (int, api.Errno) {
			m, e := fetch.Walk(keys(k), 1+i, 100, func(x int) ([]int, api.Errno) { return keys(x / 2), api.OK })
			return len(m), e
		})
		isError(t, "All", e, api.OK)
		for k, r := range l {
			want := 1
			for x := k; x > 0; x /= 2 {
				want++
			}
			is(t, "All", r, result(k, want))
		}
	})
}

// NaN is one key, less than all others, and 0 is the same as -0.
func TestP13_6_Floats(t *testing.T) {
	nan, zero := math.NaN(), math.Copysign(0, -1)
	list := []float64{1, nan, 0, zero, nan, math.Inf(-1), 1, nan}
	same := func(k float64) (float64, api.Errno) { return k, api.OK }
	next := func(k float64) ([]float64, api.Errno) { return []float64{nan, 0, k, zero, math.Inf(-1)}, api.OK }
	for _, workers := range crews() {
		do, w := watched(same)
		l, e := fetch.All(list, workers, do)
		isError(t, "All of floats", e, api.OK)
		isFloats(t, "All", keysOf(l), nan, math.Inf(-1), 0, 1)
		isFloats(t, "All, asked", slices.Sorted(slices.Values(w.order)), nan, math.Inf(-1), 0, 1)
		do, w = watched(same)
		l, e = fetch.Each(list, workers, do)
		isError(t, "Each of floats", e, api.OK)
		isFloats(t, "Each", keysOf(l), nan, math.Inf(-1), 0, 1)
		isFloats(t, "Each, asked", slices.Sorted(slices.Values(w.order)), nan, math.Inf(-1), 0, 1)
		next, v := watched(next)
		reached, e := fetch.Walk([]float64{1, nan}, workers, 4, next)
		isError(t, "Walk of floats", e, api.OK)
		isFloats(t, "Walk", reached, nan, math.Inf(-1), 0, 1)
		isFloats(t, "Walk, asked", slices.Sorted(slices.Values(v.order)), nan, math.Inf(-1), 0, 1)
	}
}

// keysOf is the keys of results.
func keysOf[K cmp.Ordered, V any](results []fetch.Result[K, V]) []K {
	var list []K
	for _, r := range results {
		list = append(list, r.Key)
	}
	return list
}

// isFloats fails the test unless a list is the one that is asked, NaN by NaN.
func isFloats(t *testing.T, what string, got []float64, want ...float64) {
	t.Helper()
	is(t, what+", whether it is the list", slices.EqualFunc(got, want, func(a, b float64) bool { return cmp.Compare(a, b) == 0 }), true)
}
