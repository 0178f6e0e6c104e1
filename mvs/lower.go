package mvs

import (
	"mews/api"
	"mews/mod"
)

// ceiling is the greatest version that a path may have.
type ceiling struct{ version string } // empty: none at all

// lowering is a downgrade under way.
type lowering struct {
	main    api.Mod
	req     Required
	prev    Previous
	workers int
	caps    map[string]ceiling // by path; a path without one may have any version
}

// Downgrade is the build list with less allowed.
func Downgrade(main api.Mod, req Required, down []api.Mod, prev Previous, workers int) ([]api.Mod, api.Errno) {
	req = remembered(req)
	list, e := Build(main, req, workers)
	if e != api.OK {
		return nil, e
	}
	d := lowering{main, req, prev, workers, ceilings(list, down)}
	var kept []api.Mod
	for _, m := range list[1:] {
		m, left, e := d.lower(m)
		if e != api.OK {
			return nil, e
		}
		if left {
			kept = append(kept, m)
		}
	}
	return Build(main, With(main, req, kept), workers)
}

// ceilings are the caps that a build list and down make. What is no version is
// less than each one, so that the empty one of none at all stays the least.
func ceilings(list, down []api.Mod) map[string]ceiling {
	caps := map[string]ceiling{}
	for _, m := range list {
		caps[m.Path] = ceiling{m.Version}
	}
	for _, m := range down {
		was, there := caps[m.Path]
		if m.Version == "" || there && mod.Compare(m.Version, was.version) < 0 {
			caps[m.Path] = ceiling{m.Version}
		}
	}
	return caps
}

// lower is a module of the list at the greatest version, from its cap on, that
// fits; false, if nothing is left of it.
func (d *lowering) lower(m api.Mod) (api.Mod, bool, api.Errno) {
	m.Version = d.caps[m.Path].version
	for m.Version != "" {
		fits, e := d.fits(m)
		if e != api.OK {
			return api.Mod{}, false, e
		}
		if fits {
			return m, true, api.OK
		}
		if m.Version, e = ahead(d.prev, m); e != api.OK {
			return api.Mod{}, false, e
		}
	}
	return api.Mod{}, false, api.OK
}

// fits tells whether a module, alone, brings nothing that is above its cap.
func (d *lowering) fits(m api.Mod) (bool, api.Errno) {
	list, e := Build(d.main, With(d.main, d.req, []api.Mod{m}), d.workers)
	if e != api.OK {
		return false, e
	}
	for _, x := range list {
		limit, there := d.caps[x.Path]
		if there && mod.Compare(x.Version, limit.version) > 0 {
			return false, api.OK
		}
	}
	return true, api.OK
}

// ahead is the version that prev says, empty if it says none that is less. Texts
// may fall without an end, versions can't: so only a version is taken, and each
// chain ends. A prev that panics is an error, as a req that does is.
func ahead(prev Previous, m api.Mod) (version string, e api.Errno) {
	defer func() {
		if recover() != nil {
			version, e = "", api.ErrRange
		}
	}()
	version, there := prev(m)
	if !there || !mod.ValidVersion(version) || mod.Compare(version, m.Version) >= 0 {
		return "", api.OK
	}
	return version, api.OK
}
