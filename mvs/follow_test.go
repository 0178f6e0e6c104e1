package mvs_test

import (
	"fmt"
	"math/rand"
	"slices"
	"testing"

	"mews/api"
	"mews/mod"
	"mews/mvs"
)

// laws is how many graphs each law is tried on.
const laws = 3000

// versionIn is a path's version in a list.
func versionIn(l []api.Mod, path string) (string, bool) {
	for _, m := range l {
		if m.Path == path {
			return m.Version, true
		}
	}
	return "", false
}

// meets tells whether a list has a module, at its version or a greater one.
func meets(l []api.Mod, m api.Mod) bool {
	version, there := versionIn(l, m.Path)
	return there && mod.Compare(version, m.Version) >= 0
}

func TestP15_7_TheGreatest(t *testing.T) {
	r := rand.New(rand.NewSource(7))
	n := tally{}
	for range laws {
		d := draw(r, 0)
		workers := some(r, crews()...)[0]
		reached, e := mvs.Reached(main(), d.req, workers)
		is(t, "Reached, error", e, api.OK)
		list, e := mvs.Build(main(), d.req, workers)
		is(t, "Build, error", e, api.OK)
		what := fmt.Sprintf("Build of %s: %s", d, told(list))
		is(t, what+", main first", list[0], main())
		for i := 2; i < len(list); i++ {
			is(t, what+", each path once, rising", list[i-1].Path < list[i].Path, true)
		}
		for _, m := range list[1:] {
			is(t, what+", reached", slices.Contains(reached, m), true)
		}
		for _, m := range reached {
			is(t, what+", the greatest", meets(list, m), true)
		}
		for i := 1; i < len(reached); i++ {
			is(t, what+", Reached rises", mod.Less(reached[i-1], reached[i]), true)
		}
		// What is reached deep is met, whether it is in the list or not.
		for m := range d.distances() {
			for _, x := range d.counted(m) {
				is(t, what+", what "+short(m)+" requires", meets(list, x), true)
				n.count("met by a greater one", !slices.Contains(list, x))
				n.count("met", true)
			}
		}
	}
	n.enough(t, 500, "met", "met by a greater one")
}

func TestP15_8_Upgrade(t *testing.T) {
	r := rand.New(rand.NewSource(8))
	n := tally{}
	for range laws {
		d := draw(r, 0)
		workers := some(r, crews()...)[0]
		up := d.list(false)
		was, _ := mvs.Build(main(), d.req, workers)
		list, e := mvs.Upgrade(main(), d.req, up, workers)
		what := fmt.Sprintf("Upgrade of %s to %s", d, told(up))
		is(t, what+", error", e, api.OK)
		for _, m := range up {
			is(t, what+", has "+short(m), meets(list, m), true)
		}
		for _, m := range was {
			is(t, what+", not below "+short(m), meets(list, m), true)
		}
		twice := slices.Concat(up, up)
		r.Shuffle(len(twice), func(i, k int) { twice[i], twice[k] = twice[k], twice[i] })
		again, e := mvs.Upgrade(main(), d.req, twice, workers)
		isList(t, what+", twice", again, e, told(list))
		same, e := mvs.Upgrade(main(), d.req, nil, workers)
		isList(t, what+", nothing", same, e, told(was))
		n.count("something", !slices.Equal(list, was))
	}
	n.enough(t, 500, "something")
}

func TestP15_9_Downgrade(t *testing.T) {
	r := rand.New(rand.NewSource(9))
	n := tally{}
	for range laws {
		d := draw(r, 0)
		workers := some(r, crews()...)[0]
		down, prev := d.list(true), d.prev()
		was, _ := mvs.Build(main(), d.req, workers)
		list, e := mvs.Downgrade(main(), d.req, down, prev, workers)
		what := fmt.Sprintf("Downgrade of %s to %s: %s", d, told(down), told(list))
		is(t, what+", error", e, api.OK)
		for _, m := range list[1:] {
			version, there := versionIn(was, m.Path)
			is(t, what+", not above what it was", there && mod.Compare(m.Version, version) > 0, false)
			for _, x := range down {
				if x.Path == m.Path {
					is(t, what+", none at all", x.Version == "", false)
					is(t, what+", not above what down says", there && mod.Compare(m.Version, x.Version) > 0, false)
					n.count("said", there)
				}
			}
			n.count("lower", there && version != m.Version)
			n.count("new", !there)
		}
		n.count("gone", len(list) < len(was))
		if nothing, e := mvs.Downgrade(main(), d.req, nil, prev, workers); !d.pruned[main()] {
			isList(t, what+", nothing", nothing, e, told(was))
		}
	}
	n.enough(t, 50, "said", "lower", "new", "gone")
}

func TestP15_10_Minimal(t *testing.T) {
	r := rand.New(rand.NewSource(10))
	n := tally{}
	for range laws {
		d := draw(r, 0)
		d.pruned[main()] = false
		workers := some(r, crews()...)[0]
		direct := d.direct()
		list, _ := mvs.Build(main(), d.req, workers)
		l, e := mvs.Minimal(main(), d.req, direct, workers)
		what := fmt.Sprintf("Minimal of %s with %q: %s", d, direct, told(l))
		is(t, what+", error", e, api.OK)
		same, e := mvs.Build(main(), mvs.With(main(), d.req, l), workers)
		isList(t, what+", the same list", same, e, told(list))
		for i := 1; i < len(l); i++ {
			is(t, what+", rises", mod.Less(l[i-1], l[i]), true)
		}
		for _, path := range direct {
			_, there := versionIn(list[1:], path)
			_, stays := versionIn(l, path)
			is(t, what+", direct "+path, stays, there)
		}
		for i, m := range l {
			if slices.Contains(direct, m.Path) {
				continue
			}
			other, e := mvs.Build(main(), mvs.With(main(), d.req, slices.Delete(slices.Clone(l), i, i+1)), workers)
			is(t, what+", error without "+short(m), e, api.OK)
			is(t, what+", without "+short(m), told(other) == told(list), false)
			n.count("must stay", true)
		}
		n.count("fewer", len(l) < len(list)-1)
	}
	n.enough(t, 500, "must stay", "fewer")
}

func TestP15_11_TheSame(t *testing.T) {
	r := rand.New(rand.NewSource(11))
	n := tally{}
	for range laws / 3 {
		d := draw(r, some(r, 0, 8, 20)[0])
		up, down, direct, prev := d.list(false), d.list(true), d.direct(), d.prev()
		all := []call{
			{"Reached", func(req mvs.Required, w int) ([]api.Mod, api.Errno) { return mvs.Reached(main(), req, w) }},
			{"Build", func(req mvs.Required, w int) ([]api.Mod, api.Errno) { return mvs.Build(main(), req, w) }},
			{"Upgrade", func(req mvs.Required, w int) ([]api.Mod, api.Errno) { return mvs.Upgrade(main(), req, up, w) }},
			{"Downgrade", func(req mvs.Required, w int) ([]api.Mod, api.Errno) {
				return mvs.Downgrade(main(), req, down, prev, w)
			}},
			{"Minimal", func(req mvs.Required, w int) ([]api.Mod, api.Errno) { return mvs.Minimal(main(), req, direct, w) }},
		}
		for _, c := range all {
			want, wantE := c.do(d.req, 1)
			for _, workers := range crews() {
				what := fmt.Sprintf("%s of %s, %d workers", c.name, d, workers)
				l, e := c.do(d.req, workers)
				agree(t, what, l, e, want, wantE)
				l, e = c.do(d.shuffled(r).req, workers)
				agree(t, what+", in another order", l, e, want, wantE)
			}
			n.count("an error", wantE != api.OK)
			n.count("a list", wantE == api.OK && len(want) > 3)
		}
	}
	n.enough(t, 300, "an error", "a list")
}
