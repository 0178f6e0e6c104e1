package mvs_test

import (
	"fmt"
	"strconv"
	"strings"
	"sync"
	"testing"
	"time"

	"mews/api"
	"mews/mod"
	"mews/mvs"
)

// reaches fails the test unless Reached answers these modules, and asks those.
func reaches(t *testing.T, text, want, asked string) {
	t.Helper()
	for _, workers := range crews() {
		req, w := watched(parse(text).req)
		l, e := mvs.Reached(main(), req, workers)
		what := fmt.Sprintf("Reached of %s, %d workers", text, workers)
		isList(t, what, l, e, want)
		got, total := w.all()
		is(t, what+", asked", got, asked)
		is(t, what+", how often", total, len(strings.Fields(asked)))
	}
}

// reachesNot fails the test unless Reached answers an error, and asks those.
func reachesNot(t *testing.T, text string, want api.Errno, asked string) {
	t.Helper()
	for _, workers := range crews() {
		req, w := watched(parse(text).req)
		l, e := mvs.Reached(main(), req, workers)
		what := fmt.Sprintf("Reached of %s, %d workers", text, workers)
		isError(t, what, l, e, want)
		got, total := w.all()
		is(t, what+", asked", got, asked)
		is(t, what+", how often", total, len(strings.Fields(asked)))
	}
}

func TestP15_1_Workers(t *testing.T) {
	for _, c := range calls() {
		for _, text := range []string{"", plain, "main: !25", "main: b0; b0: !25"} {
			for _, workers := range badCrews() {
				req, w := watched(parse(text).req)
				l, e := c.do(req, workers)
				isError(t, fmt.Sprintf("%s of %s, %d workers", c.name, text, workers), l, e, api.ErrRange)
				asked, _ := w.all()
				is(t, "asked", asked, "")
			}
		}
		one, _ := c.do(parse(plain).req, 1)
		for workers := 1; workers <= api.MaxWorkers; workers++ {
			l, e := c.do(parse(plain).req, workers)
			isList(t, fmt.Sprintf("%s, %d workers", c.name, workers), l, e, told(one))
		}
	}
}

func TestP15_1_Main(t *testing.T) {
	reaches(t, "", "", "main")
	reaches(t, "main:", "", "main")
	reaches(t, "main~:", "", "main")
	reaches(t, "main: main", "", "main")
	reaches(t, "main: m.m/main@v1.0.0", "", "main")
	reaches(t, "main: main m.m/main@v1.0.0 main m.m/main@v9.0.0 b0; m.m/main@v9.0.0: c0", "b0", "b0 main")
	reaches(t, "main: b0; b0: main m.m/main@v1.0.0 c0; m.m/main@v1.0.0: d0", "b0 c0", "b0 c0 main")
	reaches(t, "main~: b0; b0~: main m.m/main@v1.0.0 c0; m.m/main@v1.0.0: !25", "b0 c0", "b0 main")
	// Other paths are not main's.
	reaches(t, "main: m.m/main/v2@v2.0.0 m.m@v1.0.0 m.m/mai@v1.0.0 m.m/main/x@v1.0.0",
		"m.m@v1.0.0 m.m/mai@v1.0.0 m.m/main/v2@v2.0.0 m.m/main/x@v1.0.0", "m.m/mai@v1.0.0 m.m/main/v2@v2.0.0 m.m/main/x@v1.0.0 m.m@v1.0.0 main")
}

func TestP15_1_Reached(t *testing.T) {
	reaches(t, "main: b0", "b0", "b0 main")
	reaches(t, "main: c0 b0", "b0 c0", "b0 c0 main")
	reaches(t, "main: b0 b0 b0", "b0", "b0 main")
	reaches(t, "main: b0 c0; b0: c0; c0: c0", "b0 c0", "b0 c0 main")
	reaches(t, "main: b1 b0; b0: c0; b1: c1", "b0 b1 c0 c1", "b0 b1 c0 c1 main")
	reaches(t, "main: b0; b0: c0; c0: d0; d0: e0; e0: f0", "b0 c0 d0 e0 f0", "b0 c0 d0 e0 f0 main")
	reaches(t, "main: b0; c0: d0", "b0", "b0 main")
	reaches(t, plain, "b0 c0 d1 d2", "b0 c0 d1 d2 main")
	// In rings.
	reaches(t, "main: b0; b0: b0", "b0", "b0 main")
	reaches(t, "main: b0; b0: c0; c0: b0", "b0 c0", "b0 c0 main")
	reaches(t, "main: b0; b0: c0; c0: main b1; b1: c1; c1: b0 b2; b2: c2", "b0 b1 b2 c0 c1 c2", "b0 b1 b2 c0 c1 c2 main")
	reaches(t, "main~: b0; b0: c0; c0~: b0", "b0 c0", "b0 c0 main")
}

// By path, byte by byte, then by mod.Compare.
func TestP15_1_Rising(t *testing.T) {
	reaches(t, "main: b10 b9 b1 b100 b2", "b1 b2 b9 b10 b100", "b1 b10 b100 b2 b9 main")
	rising := "B.b@v1.0.0 a.x/B@v1.0.0 b0 a.x/b-@v1.0.0 a.x/b-c@v1.0.0 a.x/b.c@v1.0.0 a.x/b/c@v1.0.0 a.x/b/v10@v10.0.0 a.x/b/v2@v2.0.0 bb0 c0"
	falling := strings.Fields(rising)
	for i, k := 0, len(falling)-1; i < k; i, k = i+1, k-1 {
		falling[i], falling[k] = falling[k], falling[i]
	}
	l, e := mvs.Reached(main(), parse("main: "+strings.Join(falling, " ")).req, 3)
	isList(t, "Reached, by path", l, e, rising)
	rising = "a.x/b@v0.1.0 a.x/b@v0.1.1 a.x/b@v1.0.0-1 a.x/b@v1.0.0-2 a.x/b@v1.0.0-10 a.x/b@v1.0.0-a a.x/b@v1.0.0-a.b b0 a.x/b@v1.0.1 b1"
	l, e = mvs.Reached(main(), parse("main: b1 a.x/b@v1.0.0-10; b1: b0 a.x/b@v1.0.1 a.x/b@v1.0.0-a.b a.x/b@v0.1.1; b0: a.x/b@v1.0.0-a a.x/b@v1.0.0-2 a.x/b@v1.0.0-1 a.x/b@v0.1.0").req, 3)
	isList(t, "Reached, by version", l, e, rising)
}

// What main says is deep; so is what others say, unless both are pruned.
func TestP15_1_Pruned(t *testing.T) {
	reaches(t, "main: b0; b0: c0; c0: d0", "b0 c0 d0", "b0 c0 d0 main")
	reaches(t, "main~: b0; b0: c0; c0: d0", "b0 c0 d0", "b0 c0 d0 main")
	reaches(t, "main: b0; b0~: c0; c0: d0", "b0 c0 d0", "b0 c0 d0 main")
	reaches(t, "main~: b0; b0~: c0; c0: d0", "b0 c0", "b0 main")
	reaches(t, "main~: b0; b0~: c0; c0~: d0", "b0 c0", "b0 main")
	reaches(t, "main: b0; b0~: c0; c0~: d0; d0~: e0", "b0 c0 d0 e0", "b0 c0 d0 e0 main")
	// Pruned is the one that says, not the one that is said.
	reaches(t, "main~: b0; b0: c0; c0~: d0; d0: e0", "b0 c0 d0", "b0 c0 main")
	reaches(t, "main~: b0 c0; b0~: d0; c0~: e0; d0: f0; e0: f1", "b0 c0 d0 e0", "b0 c0 main")
	// By one that isn't pruned, and by one that is, in one round, in whichever order.
	reaches(t, "main~: b0 c0; b0~: d0; c0: d0; d0: e0", "b0 c0 d0 e0", "b0 c0 d0 e0 main")
	reaches(t, "main~: b0 c0; b0: d0; c0~: d0; d0: e0", "b0 c0 d0 e0", "b0 c0 d0 e0 main")
	// Not deep first, and deep later.
	reaches(t, "main~: b0 c0; b0~: d0; c0: e0; e0: d0; d0: f0", "b0 c0 d0 e0 f0", "b0 c0 d0 e0 f0 main")
	reaches(t, "main~: b0 c0; b0~: d0; c0: e0; e0: f0; f0: d0; d0~: g0; g0: h0", "b0 c0 d0 e0 f0 g0", "b0 c0 d0 e0 f0 main")
	// Deep first, and not deep later.
	reaches(t, "main~: b0 c0; b0: d0; c0: e0; e0~: d0; d0: f0", "b0 c0 d0 e0 f0", "b0 c0 d0 e0 f0 main")
	reaches(t, "main~: b0 d0; b0~: d0; d0: f0", "b0 d0 f0", "b0 d0 f0 main")
	// One that says itself.
	reaches(t, "main~: b0; b0~: b0 b1; b1: c0", "b0 b1", "b0 main")
	// What is not asked has no error.
	reaches(t, "main~: b0; b0~: c0; c0: !25", "b0 c0", "b0 main")
	reachesNot(t, "main: b0; b0~: c0; c0: !25", 25, "b0 c0 main")
	reachesNot(t, "main~: b0; b0: c0; c0~: !25", 25, "b0 c0 main")
}

func TestP15_1_Errors(t *testing.T) {
	reachesNot(t, "main: !25", 25, "main")
	reachesNot(t, "main: b0 c0 !7; b0: !25", 7, "main")
	reachesNot(t, "main: b0 c0 d0; c0: !25", 25, "b0 c0 d0 main")
	reachesNot(t, "main: b0 c0 d0; c0: !-1", -1, "b0 c0 d0 main")
	// Of one round the least has it, in whatever order they are said.
	for _, list := range []string{"b0 c0 d0", "d0 c0 b0", "c0 d0 b0"} {
		reachesNot(t, "main: "+list+"; b0: !1; c0: !2; d0: !3", 1, "b0 c0 d0 main")
		reachesNot(t, "main: "+list+"; c0: !2; d0: !3", 2, "b0 c0 d0 main")
		reachesNot(t, "main: "+list+"; b0: !9; d0: !3", 9, "b0 c0 d0 main")
	}
	// Each of its round is asked, and none of a later one.
	reachesNot(t, "main: b0 c0 d0; b0: !25; c0: e0; d0: f0", 25, "b0 c0 d0 main")
	// Of unlike rounds the first.
	reachesNot(t, "main: z0 y0; z0: !8; y0: b0; b0: !9", 8, "main y0 z0")
	reachesNot(t, "main: b0 c0; b0: d0; c0: e0; d0: a0; e0: !8; a0: !9", 8, "b0 c0 d0 e0 main")
	reachesNot(t, "main: b0 c0; b0: d0; d0: a0; c0: z0; z0: y0; y0: !8; a0: !9", 9, "a0 b0 c0 d0 main y0 z0")
	// What stands beside an error is not reached.
	reachesNot(t, "main: b0; b0: c0 !25; c0: !1", 25, "b0 main")
}

// Least is as mod.Less says, by path and then by version.
func TestP15_1_LeastOfARound(t *testing.T) {
	rising := mods("a.x/a@v9.0.0 a.x/b@v0.9.0 a.x/b@v1.0.0-2 a.x/b@v1.0.0-10 a.x/b@v1.0.0-a b0 b2 b9 b10 a.x/b-@v1.0.0 a.x/b.b@v1.0.0 a.x/b/b@v1.0.0 c0")
	for i, a := range rising {
		for k, b := range rising {
			if i == k {
				continue
			}
			g := newGraph()
			g.says[main()] = append(rising[k:], rising[:k]...)
			g.errs[a], g.errs[b] = api.Errno(100+i), api.Errno(100+k)
			is(t, "the order of this test", mod.Less(a, b), i < k)
			for _, workers := range crews() {
				l, e := mvs.Reached(main(), g.req, workers)
				isError(t, fmt.Sprintf("errors of %s and %s", short(a), short(b)), l, e, api.Errno(100+min(i, k)))
			}
		}
	}
}

// several are so many modules, from a number on.
func several(name string, from, count int) string {
	var words []string
	for i := range count {
		words = append(words, name+strconv.Itoa(from+i))
	}
	return strings.Join(words, " ")
}

func TestP15_1_Many(t *testing.T) {
	for _, workers := range crews() {
		fine := func(what, text string, count int) {
			t.Helper()
			l, e := mvs.Reached(main(), parse(text).req, workers)
			is(t, what+", error", e, api.OK)
			is(t, what, len(l), count)
		}
		bad := func(what, text string, want api.Errno) {
			t.Helper()
			for _, c := range calls() {
				l, e := c.do(parse(text).req, workers)
				isError(t, c.name+", "+what, l, e, want)
			}
		}
		fine("main's", "main: "+several("b", 0, most), most)
		bad("main's, one more", "main: "+several("b", 0, most+1), api.ErrMany)
		fine("pruned main's", "main~: "+several("b", 0, most), most)
		bad("pruned main's, one more", "main~: "+several("b", 0, most+1), api.ErrMany)
		fine("another one's", "main: b0; b0: "+several("c", 0, most-1), most)
		bad("another one's, one more", "main: b0; b0: "+several("c", 0, most), api.ErrMany)
		fine("not deep", "main~: b0; b0~: "+several("c", 0, most-1), most)
		bad("not deep, one more", "main~: b0; b0~: "+several("c", 0, most), api.ErrMany)
		fine("two's", "main: b0 c0; b0: "+several("f", 0, 500)+"; c0: "+several("g", 0, 498), most)
		bad("two's, one more", "main: b0 c0; b0: "+several("f", 0, 500)+"; c0: "+several("g", 0, 499), api.ErrMany)
		// Each counts once, and those of main's path don't.
		fine("twice", "main: "+several("b", 0, most)+" "+several("b", 0, most)+"; b5: "+several("b", 0, most), most)
		fine("main's path", "main: "+several("b", 0, most)+" main m.m/main@v1.0.0 m.m/main@v1.1.0; b0: main m.m/main@v1.2.0", most)
		fine("flat and deep", "main~: b0 c0; b0~: "+several("d", 0, 998)+"; c0: "+several("d", 0, 998), most)
		bad("at last", "main: b0; b0: c0; c0: d0; d0: "+several("e", 0, most), api.ErrMany)
	}
}

// Behind a round its errors are ahead of ErrMany, and ErrMany of those of the
// next one.
func TestP15_1_ManyBesideErrors(t *testing.T) {
	reachesMany := func(text string, want api.Errno) {
		t.Helper()
		for _, workers := range crews() {
			for _, c := range calls() {
				l, e := c.do(parse(text).req, workers)
				isError(t, fmt.Sprintf("%s of %.60s", c.name, text), l, e, want)
			}
		}
	}
	reachesMany("main: b0 c0; b0: "+several("f", 0, most)+"; c0: !25", 25)
	reachesMany("main: b0 c0; c0: "+several("f", 0, most)+"; b0: !25", 25)
	reachesMany("main: b0 c0; b0: "+several("f", 0, most)+"; f0: !25", api.ErrMany)
	reachesMany("main: b0 c0; b0: f0; f0: "+several("g", 0, most)+"; c0: f1; f1: f2; f2: !25", api.ErrMany)
	reachesMany("main: b0 c0; b0: f0; f0: "+several("g", 0, most)+"; c0: f1; f1: !25", 25)
	// What main says is no round of its own: so what it says is asked ahead.
	reachesMany("main: "+several("b", 0, most+1)+"; b7: !25", 25)
	reachesMany("main: "+several("b", 0, most+1)+" !25", 25)
	reachesMany("main: "+several("b", 0, most+1)+"; b7: c0; c0: !25", api.ErrMany)
	// What one that has an error says does not count.
	reachesMany("main: b0; b0: !25 "+several("f", 0, most), 25)
}

// As many goroutines ask at once as there are workers, and no more.
func TestP15_1_AtOnce(t *testing.T) {
	for _, workers := range crews() {
		var lock sync.Mutex
		waiting, all := 0, make(chan struct{})
		g := parse("main: " + several("b", 0, workers))
		req, w := watched(func(m api.Mod) ([]api.Mod, bool, api.Errno) {
			if m != main() {
				lock.Lock()
				if waiting++; waiting == workers {
					close(all)
				}
				lock.Unlock()
				select {
				case <-all:
				case <-time.After(patience):
					return nil, false, api.ErrNet
				}
			}
			return g.req(m)
		})
		l, e := mvs.Reached(main(), req, workers)
		is(t, "all at once, error", e, api.OK)
		is(t, "all at once", len(l), workers)
		is(t, "at once", w.peak, workers)
		req, w = watched(func(m api.Mod) ([]api.Mod, bool, api.Errno) {
			time.Sleep(time.Millisecond / 2)
			return parse("main: " + several("b", 0, 3*workers)).req(m)
		})
		_, e = mvs.Build(main(), req, workers)
		is(t, "more than workers, error", e, api.OK)
		is(t, "more at once than workers", w.peak > workers, false)
	}
}
