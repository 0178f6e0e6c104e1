package mvs_test

import (
	"fmt"
	"runtime"
	"slices"
	"testing"
	"time"

	"mews/api"
	"mews/mvs"
)

// mark is what lies behind lists, and what is written into them.
func mark() api.Mod { return api.Mod{Path: "mark.mark", Version: "v1.99.0"} }

// roomy is the list with spare room behind it, filled with a mark.
func roomy[T any](list []T, with T) []T {
	whole := slices.Clone(list)
	for range 20 {
		whole = append(whole, with)
	}
	return whole[:len(list)]
}

// whole is the list with what lies behind it.
func whole[T any](list []T) []T { return list[:cap(list)] }

// spoil writes into all the memory of a list.
func spoil[T any](list []T, with T) {
	for i := range whole(list) {
		whole(list)[i] = with
	}
	_ = append(list, with, with)
}

// keeper says what a graph does out of lists of its own, which it never copies.
type keeper struct {
	lists map[api.Mod][]api.Mod
	graph graph
}

func newKeeper(g graph) keeper {
	k := keeper{map[api.Mod][]api.Mod{}, g}
	for m, l := range g.says {
		k.lists[m] = roomy(l, mark())
	}
	return k
}

func (k keeper) req(m api.Mod) ([]api.Mod, bool, api.Errno) {
	return k.lists[m], k.graph.pruned[m], k.graph.errs[m]
}

// unchanged fails the test unless the lists, and what lies behind them, are as
// they were.
func (k keeper) unchanged(t *testing.T, what string) {
	t.Helper()
	for m, l := range k.lists {
		is(t, what+": what req says of "+short(m), told(whole(l)), told(whole(roomy(k.graph.says[m], mark()))))
	}
}

func (k keeper) spoil() {
	for _, l := range k.lists {
		spoil(l, mark())
	}
}

// memoryGraphs are the graphs that these tests try.
func memoryGraphs() []graph {
	return []graph{
		parse(""), parse("main: b0"), parse(plain), parse(plain + "; b0: e1; d2: e0 b1; e1: c0 main"),
		parse("main~: c1 b1 c1; b1~: d2 d1; c1~: e0 b0; b0: d0 d3"), parse("main~: b1; b1~: c0; c0: d2"),
		parse("main: b0 c0 d0 e0; b0: c0; c0: d0; d0: e0; e0: b0"), parse("main: b0; b0: !25"),
	}
}

func TestP15_6_WhatReqSays(t *testing.T) {
	for _, g := range memoryGraphs() {
		for _, c := range calls() {
			want, wantE := c.do(g.req, 2)
			for _, workers := range crews() {
				what := fmt.Sprintf("%s of %s, %d workers", c.name, g, workers)
				k := newKeeper(g)
				l, e := c.do(k.req, workers)
				agree(t, what, l, e, want, wantE)
				k.unchanged(t, what)
				// Nor is it changed by what is written into the answer.
				spoil(l, word("zzz0"))
				k.unchanged(t, what+", its answer spoilt")
				// And what becomes of it later on changes no answer.
				l, e = c.do(k.req, workers)
				k.spoil()
				agree(t, what+", what req says spoilt", l, e, want, wantE)
				// Nothing of it is kept for a later call.
				spoiltWant, spoiltWantE := c.do(newKeeper(parse("main: b1 c1; b1: d1")).req, workers)
				l, e = c.do(parse("main: b1 c1; b1: d1").req, workers)
				agree(t, what+", another req later on", l, e, spoiltWant, spoiltWantE)
			}
		}
	}
}

// One that has one list for all its answers may use it again.
func TestP15_6_ReqUsesAgain(t *testing.T) {
	for _, g := range memoryGraphs() {
		for _, c := range calls() {
			want, wantE := c.do(g.req, 1)
			one := make([]api.Mod, 0, 100)
			l, e := c.do(func(m api.Mod) ([]api.Mod, bool, api.Errno) {
				spoil(one[:0], mark())
				one = append(one[:0], g.says[m]...)
				return one, g.pruned[m], g.errs[m]
			}, 1)
			agree(t, fmt.Sprintf("%s of %s, one list", c.name, g), l, e, want, wantE)
		}
	}
}

// listed are the calls that are handed a list of modules.
func listed() map[string]func(req mvs.Required, l []api.Mod) ([]api.Mod, api.Errno) {
	return map[string]func(mvs.Required, []api.Mod) ([]api.Mod, api.Errno){
		"Upgrade": func(req mvs.Required, l []api.Mod) ([]api.Mod, api.Errno) { return mvs.Upgrade(main(), req, l, 3) },
		"Downgrade": func(req mvs.Required, l []api.Mod) ([]api.Mod, api.Errno) {
			return mvs.Downgrade(main(), req, l, below, 3)
		},
		"With, Build": func(req mvs.Required, l []api.Mod) ([]api.Mod, api.Errno) {
			return mvs.Build(main(), mvs.With(main(), req, l), 3)
		},
		"With": func(req mvs.Required, l []api.Mod) ([]api.Mod, api.Errno) {
			m, _, e := mvs.With(main(), req, l)(main())
			return m, e
		},
	}
}

// listsKept fails the test unless a call takes a list alone, not what lies
// behind it, and neither changes nor keeps it.
func listsKept[T any](t *testing.T, what string, list []T, behind T, do func([]T) ([]api.Mod, api.Errno)) {
	t.Helper()
	want, wantE := do(slices.Clip(slices.Clone(list)))
	given := roomy(list, behind)
	before := fmt.Sprint(whole(given))
	l, e := do(given)
	agree(t, what, l, e, want, wantE)
	is(t, what+", what was handed in", fmt.Sprint(whole(given)), before)
	spoil(l, mark())
	is(t, what+", what was handed in, the answer spoilt", fmt.Sprint(whole(given)), before)
	l, e = do(given)
	spoil(given, behind)
	agree(t, what+", what was handed in spoilt", l, e, want, wantE)
}

func TestP15_6_Lists(t *testing.T) {
	for _, g := range memoryGraphs() {
		for name, do := range listed() {
			for _, text := range []string{"", "b1", "d1", "c- b0", "e0 c1 d3 b1", "zz0 d1 d0 d1"} {
				for _, behind := range mods("mark9 b- c0 d-") {
					what := fmt.Sprintf("%s of %s to %s, behind it %s", name, g, text, short(behind))
					listsKept(t, what, mods(text), behind, func(l []api.Mod) ([]api.Mod, api.Errno) { return do(g.req, l) })
				}
			}
		}
		for _, text := range []string{"", "b", "c d", "e d c b b", "zz"} {
			for _, behind := range pathsOf("b c d e") {
				what := fmt.Sprintf("Minimal of %s with %s, behind it %s", g, text, behind)
				listsKept(t, what, pathsOf(text), behind, func(l []string) ([]api.Mod, api.Errno) { return mvs.Minimal(main(), g.req, l, 3) })
			}
		}
	}
}

// Nor is a list changed meanwhile.
func TestP15_6_ListsMeanwhile(t *testing.T) {
	for _, g := range memoryGraphs() {
		for name, do := range listed() {
			given := roomy(mods("d1 b1 d0 c-"), mark())
			before := told(whole(given))
			do(func(m api.Mod) ([]api.Mod, bool, api.Errno) {
				is(t, fmt.Sprintf("%s of %s, what was handed in, meanwhile", name, g), told(whole(given)), before)
				return g.req(m)
			}, given)
		}
	}
}

// With keeps nothing of its list, and hands out nothing that it keeps.
func TestP15_6_With(t *testing.T) {
	for _, text := range []string{"b0", "c0 b0 d1", "b0 c0 d0 e0 f0 g0 h0"} {
		given := roomy(mods(text), mark())
		k := newKeeper(parse("main: e0; b0: c0 d0 e0; c0: d0"))
		with := mvs.With(main(), k.req, given)
		spoil(given, mark())
		for _, m := range mods("main b0 c0") {
			first, _, e := with(m)
			second, _, _ := with(m)
			want := told(second)
			isList(t, "With "+text+", of "+short(m), first, e, want)
			beside := told(whole(second))
			spoil(first, mark())
			is(t, "With "+text+", the other list", told(whole(second)), beside)
			third, _, _ := with(m)
			is(t, "With "+text+", asked again", told(third), want)
			spoil(second, mark())
			is(t, "With "+text+", asked again, the other one spoilt", told(third), want)
			k.unchanged(t, "With "+text)
		}
		says(t, "With "+text, with, "main", text, false)
		k.spoil()
		says(t, "With "+text+", what req says spoilt", with, "main", text, false)
		says(t, "With "+text+", what req says spoilt", with, "c0", "mark.mark@v1.99.0", false)
	}
}

func TestP15_6_NewMemory(t *testing.T) {
	for _, g := range memoryGraphs() {
		for _, c := range calls() {
			for _, workers := range []int{1, 8} {
				what := fmt.Sprintf("%s of %s", c.name, g)
				first, _ := c.do(g.req, workers)
				second, _ := c.do(g.req, workers)
				want, beside := told(second), told(whole(second))
				is(t, what, told(first), want)
				spoil(first, mark())
				is(t, what+", the other one", told(whole(second)), beside)
				third, _ := c.do(g.req, workers)
				is(t, what+", asked again", told(third), want)
				spoil(second, mark())
				is(t, what+", asked again, the other one spoilt", told(third), want)
			}
		}
	}
}

// What is asked is answered, and nothing is asked any more, when a call answers.
func TestP15_6_NothingGoesOn(t *testing.T) {
	for _, c := range calls() {
		for _, workers := range crews() {
			for _, bad := range []string{"none0", "main", "b0", "b1", "b49", "c3"} {
				g := parse("main: " + several("b", 0, 50) + "; b7: " + several("c", 0, 20))
				g.errs[word(bad)] = api.ErrNet
				req, w := watched(func(m api.Mod) ([]api.Mod, bool, api.Errno) {
					if workers > 1 && m != main() && g.errs[m] == api.OK {
						time.Sleep(time.Millisecond / 5)
					}
					return g.req(m)
				})
				c.do(req, workers)
				is(t, c.name+", still asked", w.inside, 0)
				_, total := w.all()
				time.Sleep(time.Millisecond)
				_, later := w.all()
				is(t, c.name+", asked later on", later, total)
			}
		}
	}
}

// No goroutine is left, of whatever call.
func TestP15_6_NoGoroutineLeft(t *testing.T) {
	before := runtime.NumGoroutine()
	for range 10 {
		for _, g := range memoryGraphs() {
			for _, c := range calls() {
				for _, workers := range append(crews(), 0) {
					c.do(g.req, workers)
					c.do(mvs.With(main(), g.req, mods("c1 d0")), workers)
				}
			}
		}
	}
	// One that has said that it is done may take a moment to be gone.
	for end := time.Now().Add(patience); runtime.NumGoroutine() > before && time.Now().Before(end); {
		time.Sleep(time.Millisecond)
	}
	is(t, "goroutines left", max(0, runtime.NumGoroutine()-before), 0)
}
