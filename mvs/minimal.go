package mvs

import (
	"slices"

	"mews/api"
)

// Minimal is the fewest requirements that say the same.
func Minimal(main api.Mod, req Required, direct []string, workers int) ([]api.Mod, api.Errno) {
	req = remembered(req)
	list, e := Build(main, req, workers)
	if e != api.OK {
		return nil, e
	}
	stays := map[string]struct{}{}
	for _, path := range direct {
		stays[path] = struct{}{}
	}
	l := slices.Clone(list[1:])
	for _, m := range slices.Backward(list[1:]) {
		if _, there := stays[m.Path]; there {
			continue
		}
		fewer := without(l, m)
		if same, e := Build(main, With(main, req, fewer), workers); e == api.OK && slices.Equal(same, list) {
			l = fewer
		}
	}
	return l, api.OK
}

// without is a list without a module.
func without(l []api.Mod, m api.Mod) []api.Mod {
	return slices.DeleteFunc(slices.Clone(l), func(x api.Mod) bool { return x == m })
}
