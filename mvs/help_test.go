package mvs_test

import (
	"fmt"
	"maps"
	"math/rand"
	"regexp"
	"slices"
	"strconv"
	"strings"
	"sync"
	"testing"
	"time"

	"mews/api"
	"mews/mvs"
)

// patience is how long a test waits for what must come, ahead of failing.
const patience = 20 * time.Second

// most is how many modules may be reached.
const most = 5 * api.MaxMods

// crews is the counts of workers that most tests try.
func crews() []int { return []int{1, 2, 8, api.MaxWorkers} }

// badCrews is what workers may not be.
func badCrews() []int {
	return []int{-1 << 63, -api.MaxWorkers, -1, 0, api.MaxWorkers + 1, 1<<63 - 1}
}

// main is the module that is built.
func main() api.Mod { return api.Mod{Path: "m.m/main"} }

// word is a module, of a short text: `main`; `b2` is a.x/b v1.2.0; `b-` is a.x/b
// with an empty version; others stand as PATH@VERSION.
func word(s string) api.Mod {
	if s == "main" {
		return main()
	}
	if path, version, there := strings.Cut(s, "@"); there {
		return api.Mod{Path: path, Version: version}
	}
	name := strings.TrimRight(s, "-0123456789")
	if s == name+"-" {
		return api.Mod{Path: "a.x/" + name}
	}
	return api.Mod{Path: "a.x/" + name, Version: "v1." + s[len(name):] + ".0"}
}

// mods are modules, of short texts.
func mods(s string) []api.Mod {
	var l []api.Mod
	for _, x := range strings.Fields(s) {
		l = append(l, word(x))
	}
	return l
}

// plainWord is what of the short texts is not PATH@VERSION.
var plainWord = regexp.MustCompile(`^a\.x/([a-z]+) v1\.([0-9]+)\.0$`)

// short is a module's short text.
func short(m api.Mod) string {
	if m == main() {
		return "main"
	}
	if found := plainWord.FindStringSubmatch(m.Path + " " + m.Version); found != nil {
		return found[1] + found[2]
	}
	return m.Path + "@" + m.Version
}

// told are modules' short texts.
func told(l []api.Mod) string {
	var words []string
	for _, m := range l {
		words = append(words, short(m))
	}
	return strings.Join(words, " ")
}

// is fails the test unless got is want.
func is[T comparable](t *testing.T, what string, got, want T) {
	t.Helper()
	if got != want {
		t.Errorf("%s: %.900s, not %.900s", what, fmt.Sprint(got), fmt.Sprint(want))
	}
}

// isList fails the test unless got is want, without an error.
func isList(t *testing.T, what string, got []api.Mod, e api.Errno, want string) {
	t.Helper()
	is(t, what, told(got), want)
	is(t, what+", error", e, api.OK)
}

// isError fails the test unless there is that error, and nothing beside.
func isError(t *testing.T, what string, got []api.Mod, e, want api.Errno) {
	t.Helper()
	is(t, what+", error", e, want)
	is(t, what+", beside an error", told(got), "")
}

// graph is what modules require.
type graph struct {
	says   map[api.Mod][]api.Mod
	pruned map[api.Mod]bool
	errs   map[api.Mod]api.Errno
}

func newGraph() graph {
	return graph{map[api.Mod][]api.Mod{}, map[api.Mod]bool{}, map[api.Mod]api.Errno{}}
}

// parse is a graph, of a text like `main: b0 c0; b0~: c1; c1: !25`: ~ says that
// a module is pruned, ! which error it has.
func parse(text string) graph {
	g := newGraph()
	for _, line := range strings.Split(text, ";") {
		name, list, there := strings.Cut(strings.TrimSpace(line), ":")
		if !there {
			continue
		}
		name, pruned := strings.CutSuffix(name, "~")
		m := word(name)
		g.pruned[m] = pruned
		for _, x := range strings.Fields(list) {
			if number, bad := strings.CutPrefix(x, "!"); bad {
				n, _ := strconv.Atoi(number)
				g.errs[m] = api.Errno(n)
			} else {
				g.says[m] = append(g.says[m], word(x))
			}
		}
	}
	return g
}

// String tells a graph where a test fails.
func (g graph) String() string {
	seen := map[string]struct{}{}
	for m := range g.says {
		seen[g.line(m)] = struct{}{}
	}
	for m := range g.pruned {
		seen[g.line(m)] = struct{}{}
	}
	for m := range g.errs {
		seen[g.line(m)] = struct{}{}
	}
	return strings.Join(slices.Sorted(maps.Keys(seen)), "; ")
}

func (g graph) line(m api.Mod) string {
	s := short(m)
	if g.pruned[m] {
		s += "~"
	}
	s += ": " + told(g.says[m])
	if e := g.errs[m]; e != api.OK {
		s += " !" + strconv.Itoa(int(e))
	}
	return s
}

// req says what the graph does. Beside an error it says something all the same.
func (g graph) req(m api.Mod) ([]api.Mod, bool, api.Errno) {
	if e := g.errs[m]; e != api.OK {
		return append(slices.Clone(g.says[m]), word("beside0")), true, e
	}
	return slices.Clone(g.says[m]), g.pruned[m], api.OK
}

// copied is a graph of its own.
func (g graph) copied() graph {
	other := newGraph()
	for m, l := range g.says {
		other.says[m] = slices.Clone(l)
	}
	maps.Copy(other.pruned, g.pruned)
	maps.Copy(other.errs, g.errs)
	return other
}

// requiring is the graph with another list of main.
func (g graph) requiring(l []api.Mod) graph {
	other := g.copied()
	other.says[main()] = slices.Clone(l)
	return other
}

// shuffled is the graph with each list in another order, and with something of
// it twice.
func (g graph) shuffled(r *rand.Rand) graph {
	other := g.copied()
	for m, l := range other.says {
		for range r.Intn(2) {
			l = append(l, some(r, g.says[m]...)...)
		}
		r.Shuffle(len(l), func(i, k int) { l[i], l[k] = l[k], l[i] })
		other.says[m] = l
	}
	return other
}

// some is one of a list, or none of an empty one.
func some[T any](r *rand.Rand, l ...T) []T {
	if len(l) == 0 {
		return nil
	}
	return []T{l[r.Intn(len(l))]}
}

// watch counts what is asked.
type watch struct {
	lock         sync.Mutex
	asked        map[api.Mod]int
	inside, peak int // asked right now; at once, at most
}

// watched is req, with what counts it.
func watched(req mvs.Required) (mvs.Required, *watch) {
	w := &watch{asked: map[api.Mod]int{}}
	return func(m api.Mod) ([]api.Mod, bool, api.Errno) {
		w.enter(m)
		defer w.leave()
		return req(m)
	}, w
}

func (w *watch) enter(m api.Mod) {
	w.lock.Lock()
	defer w.lock.Unlock()
	w.asked[m]++
	w.inside++
	w.peak = max(w.peak, w.inside)
}

func (w *watch) leave() {
	w.lock.Lock()
	defer w.lock.Unlock()
	w.inside--
}

// all is what was asked, each once, and how often anything was.
func (w *watch) all() (string, int) {
	w.lock.Lock()
	defer w.lock.Unlock()
	var words []string
	total := 0
	for m, n := range w.asked {
		words = append(words, short(m))
		total += n
	}
	slices.Sort(words)
	return strings.Join(words, " "), total
}

// none says that there is no version ahead.
func none(api.Mod) (string, bool) { return "", false }

// below is the version one less, as long as there is one: b2, b1, b0.
func below(m api.Mod) (string, bool) {
	var n int
	if _, err := fmt.Sscanf(m.Version, "v1.%d.0", &n); err != nil || n == 0 {
		return "", false
	}
	return fmt.Sprintf("v1.%d.0", n-1), true
}

// call is one of the calls that answer a list.
type call struct {
	name string
	do   func(req mvs.Required, workers int) ([]api.Mod, api.Errno)
}

// calls are all calls that answer a list, each with something to do.
func calls() []call {
	return []call{
		{"Reached", func(req mvs.Required, w int) ([]api.Mod, api.Errno) { return mvs.Reached(main(), req, w) }},
		{"Build", func(req mvs.Required, w int) ([]api.Mod, api.Errno) { return mvs.Build(main(), req, w) }},
		{"Upgrade", func(req mvs.Required, w int) ([]api.Mod, api.Errno) {
			return mvs.Upgrade(main(), req, mods("b1 zz0"), w)
		}},
		{"Downgrade", func(req mvs.Required, w int) ([]api.Mod, api.Errno) {
			return mvs.Downgrade(main(), req, mods("b0 d0 e- zz-"), below, w)
		}},
		{"Minimal", func(req mvs.Required, w int) ([]api.Mod, api.Errno) {
			return mvs.Minimal(main(), req, []string{"a.x/c"}, w)
		}},
	}
}

// The helpers of these tests: short texts there and back.
func TestShortTexts(t *testing.T) {
	is(t, "b2", word("b2"), api.Mod{Path: "a.x/b", Version: "v1.2.0"})
	is(t, "b10", word("b10"), api.Mod{Path: "a.x/b", Version: "v1.10.0"})
	is(t, "b-", word("b-"), api.Mod{Path: "a.x/b"})
	is(t, "c.c@v2.0.0", word("c.c@v2.0.0"), api.Mod{Path: "c.c", Version: "v2.0.0"})
	is(t, "told", told(mods("main b2 bb10 c.c@v2.0.0 b-")), "main b2 bb10 c.c@v2.0.0 a.x/b@")
	is(t, "a graph", parse("main~: b0 c0;b0: !3;c0: b1 !4").String(), "b0:  !3; c0: b1 !4; main~: b0 c0")
}
