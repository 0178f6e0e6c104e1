package mvs

import (
	"mews/api"
	"mews/mod"
)

// most is how many modules may be reached.
const most = 5 * api.MaxMods

// How a module is reached; 0: it is not.
const (
	flat = 1 + iota // it counts, but is not asked
	deep
)

// walk is how far modules are reached.
type walk struct {
	main    string          // its path
	how     map[api.Mod]int // how each one is reached
	all     []api.Mod       // those that are reached, as they came
	waiting []api.Mod       // those that are reached deep, and not asked yet
}

// reach is all that is reached, as it came.
func reach(main api.Mod, req Required, workers int) ([]api.Mod, api.Errno) {
	said, e := askAll([]api.Mod{main}, req, workers)
	if e != api.OK {
		return nil, e
	}
	w := walk{main: main.Path, how: map[api.Mod]int{}}
	w.add(said[0].mods, deep)
	for len(w.waiting) > 0 {
		if e := w.round(req, workers, said[0].pruned); e != api.OK {
			return nil, e
		}
	}
	return w.all, api.OK
}

// round asks for those that wait; pruned tells whether main is.
func (w *walk) round(req Required, workers int, pruned bool) api.Errno {
	said, e := askAll(mod.SortMods(w.waiting), req, workers)
	if e != api.OK {
		return e
	}
	w.waiting = nil
	for _, a := range said {
		if pruned && a.pruned {
			w.add(a.mods, flat)
		} else {
			w.add(a.mods, deep)
		}
	}
	if len(w.all) > most {
		return api.ErrMany
	}
	return api.OK
}

// add reaches modules, flat or deep. One that was flat may be deep later on.
func (w *walk) add(mods []api.Mod, how int) {
	for _, m := range mods {
		was := w.how[m]
		if m.Path == w.main || was >= how {
			continue
		}
		if was == 0 {
			w.all = append(w.all, m)
		}
		if how == deep {
			w.waiting = append(w.waiting, m)
		}
		w.how[m] = how
	}
}
