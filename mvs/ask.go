package mvs

import (
	"slices"

	"mews/api"
	"mews/fetch"
)

// answer is what was said of a module.
type answer struct {
	mods   []api.Mod // what it requires
	pruned bool
}

// ask is what req says of a module, with nothing beside an error. The list is
// req's own, so it is copied as soon as it is there. No call panics, so a req
// that does is an error.
func ask(req Required, m api.Mod) (said answer, e api.Errno) {
	defer func() {
		if recover() != nil {
			e = api.ErrRange
		}
	}()
	mods, pruned, e := req(m)
	if e != api.OK {
		return answer{}, e
	}
	return answer{slices.Clone(mods), pruned}, api.OK
}

// askAll is what req says of modules, in their order; or the error of the first
// one that has one, behind all of them.
func askAll(list []api.Mod, req Required, workers int) ([]answer, api.Errno) {
	results, e := fetch.Each(places(list), workers, func(i int) (answer, api.Errno) { return ask(req, list[i]) })
	if e != api.OK {
		return nil, e
	}
	said := make([]answer, len(list))
	for i, r := range results {
		if r.Err != api.OK {
			return nil, r.Err
		}
		said[i] = r.V
	}
	return said, api.OK
}

// places are the places of a list. Where it rises they rise as mod.Less says,
// which the order of no key of its own would.
func places(list []api.Mod) []int {
	l := make([]int, len(list))
	for i := range l {
		l[i] = i
	}
	return l
}

// remembered is req, asked once a module: a call that builds many lists asks
// for most modules again and again.
func remembered(req Required) Required {
	known := fetch.NewOnce[api.Mod, answer]()
	return func(m api.Mod) ([]api.Mod, bool, api.Errno) {
		said, e := known.Do(m, func() (answer, api.Errno) { return ask(req, m) })
		return said.mods, said.pruned, e
	}
}
