package mvs_test

import (
	"slices"
	"strings"
	"testing"

	"mews/api"
	"mews/mod"
	"mews/mvs"
)

// A second reading of the chapter, over graphs whose versions are all of one
// short list: it goes by distances from main, not by rounds, and takes each
// version by its place in that list.

// risingVersions are the versions of drawn graphs.
func risingVersions() []string {
	return []string{"v0.9.0", "v0.10.0", "v1.0.0-2", "v1.0.0-10", "v1.0.0-a", "v1.0.0-a.b", "v1.0.0", "v1.2.0", "v1.10.0"}
}

// rank is a version's place; the empty one is ahead of all.
func rank(version string) int { return slices.Index(risingVersions(), version) }

// modelLess tells which module is less.
func modelLess(a, b api.Mod) bool {
	return a.Path < b.Path || a.Path == b.Path && rank(a.Version) < rank(b.Version)
}

// modelSorted is a list, rising, each once.
func modelSorted(l []api.Mod) []api.Mod {
	l = slices.Clone(l)
	slices.SortFunc(l, func(a, b api.Mod) int {
		if modelLess(a, b) {
			return -1
		}
		if modelLess(b, a) {
			return 1
		}
		return 0
	})
	return slices.Compact(l)
}

// counted is what a module says that counts.
func (g graph) counted(m api.Mod) []api.Mod {
	if g.errs[m] != api.OK {
		return nil
	}
	return slices.DeleteFunc(slices.Clone(g.says[m]), func(x api.Mod) bool { return x.Path == main().Path })
}

// leads tells whether what a module says is deep.
func (g graph) leads(m api.Mod) bool { return m == main() || !g.pruned[main()] || !g.pruned[m] }

// distances are how far from main each module is that is asked.
func (g graph) distances() map[api.Mod]int {
	far := map[api.Mod]int{main(): 0}
	waiting := []api.Mod{main()}
	for len(waiting) > 0 {
		m := waiting[len(waiting)-1]
		waiting = waiting[:len(waiting)-1]
		if !g.leads(m) {
			continue
		}
		for _, x := range g.counted(m) {
			if d, there := far[x]; !there || d > far[m]+1 {
				far[x] = far[m] + 1
				waiting = append(waiting, x)
			}
		}
	}
	return far
}

// modelReached is Reached.
func modelReached(g graph) ([]api.Mod, api.Errno) {
	if e := g.errs[main()]; e != api.OK {
		return nil, e
	}
	far := g.distances()
	for d := 1; d <= len(far); d++ {
		var bad, all []api.Mod
		for m, at := range far {
			if at == d && g.errs[m] != api.OK {
				bad = append(bad, m)
			}
			if at <= d {
				all = append(all, g.counted(m)...)
			}
		}
		if len(bad) > 0 {
			return nil, g.errs[modelSorted(bad)[0]]
		}
		if len(modelSorted(all)) > most {
			return nil, api.ErrMany
		}
	}
	var all []api.Mod
	for m := range far {
		all = append(all, g.counted(m)...)
	}
	return modelSorted(all), api.OK
}

// modelBuild is Build.
func modelBuild(g graph) ([]api.Mod, api.Errno) {
	reached, e := modelReached(g)
	if e != api.OK {
		return nil, e
	}
	list := []api.Mod{main()}
	for _, m := range reached {
		if !slices.ContainsFunc(reached, func(x api.Mod) bool { return x.Path == m.Path && rank(x.Version) > rank(m.Version) }) {
			list = append(list, m)
		}
	}
	return list, api.OK
}

// modelUpgrade is Upgrade.
func modelUpgrade(g graph, up []api.Mod) ([]api.Mod, api.Errno) {
	return modelBuild(g.requiring(slices.Concat(up, g.says[main()])))
}

// lowest is the cap of a module's path, and whether it has one; empty: none at all.
func lowest(path string, list, down []api.Mod) (string, bool) {
	cap, there := "", false
	for _, m := range list {
		if m.Path == path {
			cap, there = m.Version, true
		}
	}
	for _, m := range down {
		if m.Path == path && m.Version == "" {
			return "", true
		}
	}
	for _, m := range down {
		if there && m.Path == path && rank(m.Version) < rank(cap) {
			cap = m.Version
		}
	}
	return cap, there
}

// modelFits tells whether a module fits.
func modelFits(g graph, m api.Mod, list, down []api.Mod) (bool, api.Errno) {
	alone, e := modelBuild(g.requiring([]api.Mod{m}))
	for _, x := range alone {
		if cap, there := lowest(x.Path, list, down); there && rank(x.Version) > rank(cap) {
			return false, e
		}
	}
	return e == api.OK, e
}

// modelDowngrade is Downgrade.
func modelDowngrade(g graph, down []api.Mod, prev mvs.Previous) ([]api.Mod, api.Errno) {
	list, e := modelBuild(g)
	if e != api.OK {
		return nil, e
	}
	var kept []api.Mod
	for _, m := range list[1:] {
		m.Version, _ = lowest(m.Path, list, down)
		for m.Version != "" {
			fits, e := modelFits(g, m, list, down)
			if e != api.OK {
				return nil, e
			}
			if fits {
				kept = append(kept, m)
				break
			}
			version, there := prev(m)
			if !there || rank(version) >= rank(m.Version) {
				break
			}
			m.Version = version
		}
	}
	return modelBuild(g.requiring(kept))
}

// modelMinimal is Minimal.
func modelMinimal(g graph, direct []string) ([]api.Mod, api.Errno) {
	list, e := modelBuild(g)
	if e != api.OK {
		return nil, e
	}
	l := slices.Clone(list[1:])
	for i := len(list) - 1; i > 0; i-- {
		if slices.Contains(direct, list[i].Path) {
			continue
		}
		fewer := slices.DeleteFunc(slices.Clone(l), func(x api.Mod) bool { return x.Path == list[i].Path })
		if other, e := modelBuild(g.requiring(fewer)); e == api.OK && slices.Equal(other, list) {
			l = fewer
		}
	}
	return l, api.OK
}

// The model's own versions rise, and are the ones that may be.
func TestModelVersions(t *testing.T) {
	for i, version := range risingVersions() {
		is(t, version, mod.ValidVersion(version), true)
		is(t, version+", rank", rank(version), i)
		if i > 0 {
			is(t, version+" above the one ahead", mod.Compare(risingVersions()[i-1], version), -1)
		}
	}
	is(t, "rank of the empty one", rank(""), -1)
}

// The model answers the chapter's examples.
func TestModelExamples(t *testing.T) {
	g := parse(strings.NewReplacer("0", "@v0.9.0", "1", "@v0.10.0", "2", "@v1.2.0", "3", "@v1.10.0").Replace(plain))
	b, c, d := "b@v0.9.0", "c@v0.9.0", "d@v1.2.0"
	l, e := modelBuild(g)
	isList(t, "Build", l, e, "main "+b+" "+c+" "+d)
	l, e = modelReached(g)
	isList(t, "Reached", l, e, b+" "+c+" d@v0.10.0 "+d)
	l, e = modelUpgrade(g, mods("c@v0.10.0"))
	isList(t, "Upgrade", l, e, "main "+b+" c@v0.10.0 d@v1.10.0")
	l, e = modelDowngrade(g, mods("d@v0.10.0"), none)
	isList(t, "Downgrade", l, e, "main "+b+" d@v0.10.0")
	l, e = modelMinimal(g, []string{"b"})
	isList(t, "Minimal", l, e, b+" "+c)
}
