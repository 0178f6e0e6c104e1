package mvs_test

import (
	"fmt"
	"math/rand"
	"slices"
	"testing"

	"mews/api"
	"mews/mvs"
)

// drawn is a graph over a few paths and versions, some of it pruned, some with
// errors.
type drawn struct {
	graph
	r        *rand.Rand
	paths    []string
	versions []string // rising
}

// draw makes a graph; errors: one module of so many has one, 0: none.
func draw(r *rand.Rand, errors int) drawn {
	d := drawn{newGraph(), r, []string{"a.x/b", "a.x/b-", "a.x/b/c", "a.x/c", "a.x/d", "b.c"}, nil}
	d.paths = d.paths[:2+r.Intn(len(d.paths)-1)]
	for _, version := range risingVersions() {
		if r.Intn(2) == 0 || len(d.versions) == 0 {
			d.versions = append(d.versions, version)
		}
	}
	// Few requirements each, else all is reached by all.
	for _, m := range d.all() {
		for range r.Intn(3) {
			d.says[m] = append(d.says[m], d.mod())
		}
		if r.Intn(20) == 0 {
			d.says[m] = append(d.says[m], api.Mod{Path: main().Path, Version: some(r, "", "v1.0.0")[0]})
		}
		d.pruned[m] = r.Intn(2) == 0
		if errors > 0 && r.Intn(errors) == 0 {
			d.errs[m] = api.Errno(1 + r.Intn(35))
		}
	}
	for range r.Intn(5) {
		d.says[main()] = append(d.says[main()], d.mod())
	}
	d.pruned[main()] = r.Intn(2) == 0
	if errors > 0 && r.Intn(20) == 0 {
		d.errs[main()] = api.Errno(1 + r.Intn(35))
	}
	return d
}

// all is each module that may be drawn, main too.
func (d drawn) all() []api.Mod {
	l := []api.Mod{main()}
	for _, path := range d.paths {
		for _, version := range d.versions {
			l = append(l, api.Mod{Path: path, Version: version})
		}
	}
	return l
}

// mod is any module, but main.
func (d drawn) mod() api.Mod {
	return some(d.r, d.all()[1:]...)[0]
}

// mods are a few of them, some with an empty version, some of another path.
func (d drawn) list(empty bool) []api.Mod {
	var l []api.Mod
	for range d.r.Intn(4) {
		m := d.mod()
		m.Version = some(d.r, risingVersions()...)[0]
		if empty && d.r.Intn(4) == 0 {
			m.Version = ""
		}
		if d.r.Intn(10) == 0 {
			m.Path = some(d.r, "z.z", "a.x/b/b")[0]
		}
		l = append(l, m)
	}
	return append(l, some(d.r, append(l, nil...)...)...)
}

// direct are a few paths.
func (d drawn) direct() []string {
	var l []string
	for range d.r.Intn(4) {
		l = append(l, d.mod().Path)
	}
	return append(l, some(d.r, "z.z", main().Path)...)
}

// prev is what says the version ahead: of some modules there is none, or one
// that is not less, or one that isn't the next.
func (d drawn) prev() mvs.Previous {
	says := map[api.Mod]string{}
	for _, path := range append(d.paths, "z.z", "a.x/b/b") {
		for i, version := range risingVersions() {
			m := api.Mod{Path: path, Version: version}
			switch d.r.Intn(8) {
			case 0:
			case 1:
				says[m] = some(d.r, risingVersions()...)[0]
			default:
				if i > 0 {
					says[m] = risingVersions()[i-1]
				}
			}
		}
	}
	return func(m api.Mod) (string, bool) {
		version, there := says[m]
		return version, there
	}
}

// agree fails the test unless both answer the same.
func agree(t *testing.T, what string, l []api.Mod, e api.Errno, want []api.Mod, wantE api.Errno) bool {
	t.Helper()
	if told(l) != told(want) || e != wantE {
		t.Errorf("%s: %s, %d; not %s, %d", what, told(l), e, told(want), wantE)
		return false
	}
	return true
}

// tally counts what came up, so that a test can tell that it tried enough.
type tally map[string]int

func (n tally) count(what string, came bool) {
	if came {
		n[what]++
	}
}

func (n tally) enough(t *testing.T, least int, what ...string) {
	t.Helper()
	for _, x := range what {
		if n[x] < least {
			t.Errorf("%s came up %d times only", x, n[x])
		}
	}
}

func TestDrawnReachedAndBuild(t *testing.T) {
	r := rand.New(rand.NewSource(1))
	n := tally{}
	for range 6000 {
		d := draw(r, some(r, 0, 10, 40)[0])
		workers := some(r, crews()...)[0]
		want, wantE := modelReached(d.graph)
		l, e := mvs.Reached(main(), d.req, workers)
		if !agree(t, fmt.Sprint("Reached of ", d), l, e, want, wantE) {
			return
		}
		want, wantE = modelBuild(d.graph)
		l, e = mvs.Build(main(), d.req, workers)
		if !agree(t, fmt.Sprint("Build of ", d), l, e, want, wantE) {
			return
		}
		unpruned := d.copied()
		unpruned.pruned[main()] = false
		other, otherE := modelBuild(unpruned)
		n.count("an error", e != api.OK && d.errs[main()] == api.OK)
		n.count("a list", e == api.OK && len(l) > 3)
		n.count("a list that is pruned", e == api.OK && otherE == api.OK && !slices.Equal(l, other))
		n.count("an error that is pruned", e == api.OK && otherE != api.OK)
	}
	n.enough(t, 100, "an error", "a list", "a list that is pruned", "an error that is pruned")
}

func TestDrawnUpgrade(t *testing.T) {
	r := rand.New(rand.NewSource(2))
	n := tally{}
	for range 4000 {
		d := draw(r, some(r, 0, 10, 20)[0])
		up := d.list(false)
		first, firstE := modelBuild(d.graph)
		want, wantE := modelUpgrade(d.graph, up)
		l, e := mvs.Upgrade(main(), d.req, up, some(r, crews()...)[0])
		if !agree(t, fmt.Sprintf("Upgrade of %s to %s", d, told(up)), l, e, want, wantE) {
			return
		}
		n.count("another list", e == api.OK && !slices.Equal(l, first))
		n.count("the same list", e == api.OK && slices.Equal(l, first) && len(up) > 0)
		n.count("an error by it", e != api.OK && firstE == api.OK)
	}
	n.enough(t, 50, "another list", "the same list", "an error by it")
}

func TestDrawnDowngrade(t *testing.T) {
	r := rand.New(rand.NewSource(3))
	n := tally{}
	for range 6000 {
		d := draw(r, some(r, 0, 15)[0])
		down, prev := d.list(true), d.prev()
		first, firstE := modelBuild(d.graph)
		want, wantE := modelDowngrade(d.graph, down, prev)
		l, e := mvs.Downgrade(main(), d.req, down, prev, some(r, crews()...)[0])
		if !agree(t, fmt.Sprintf("Downgrade of %s to %s", d, told(down)), l, e, want, wantE) {
			return
		}
		n.count("another list", e == api.OK && !slices.Equal(l, first))
		n.count("the same list", e == api.OK && slices.Equal(l, first) && len(down) > 0)
		n.count("an error by it", e != api.OK && firstE == api.OK)
		n.count("a pruned one with nothing to do that is another", e == api.OK && len(down) == 0 && !slices.Equal(l, first))
		without, _ := modelDowngrade(d.graph, down, none)
		n.count("another one by prev", e == api.OK && !slices.Equal(l, without))
	}
	n.enough(t, 30, "another list", "the same list", "an error by it", "a pruned one with nothing to do that is another", "another one by prev")
}

func TestDrawnMinimal(t *testing.T) {
	r := rand.New(rand.NewSource(4))
	n := tally{}
	for range 6000 {
		d := draw(r, some(r, 0, 8)[0])
		direct := d.direct()
		first, firstE := modelBuild(d.graph)
		want, wantE := modelMinimal(d.graph, direct)
		l, e := mvs.Minimal(main(), d.req, direct, some(r, crews()...)[0])
		if !agree(t, fmt.Sprintf("Minimal of %s with %q", d, direct), l, e, want, wantE) {
			return
		}
		if firstE != api.OK {
			continue
		}
		_, wholeE := modelBuild(d.requiring(first[1:]))
		n.count("fewer", len(l) < len(first)-1)
		n.count("all", len(l) == len(first)-1 && len(l) > 2)
		n.count("an error later on", wholeE != api.OK)
		n.count("an error later on, but fewer", wholeE != api.OK && len(l) < len(first)-1)
	}
	n.enough(t, 30, "fewer", "all", "an error later on", "an error later on, but fewer")
}
