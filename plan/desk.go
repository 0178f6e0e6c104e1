package plan

import (
	"mews/api"
	"mews/modfile"
)

// desk is what one call works with.
type desk struct {
	u       Universe
	sources []api.File
	tags    []string
	workers int
	shelves map[api.Mod]looked // by what stands in a module's place
}

// looked is what came of looking for a module's packages.
type looked struct {
	shelf shelf
	e     api.Errno
}

func newDesk(p Project, u Universe, tags []string, workers int) *desk {
	return &desk{careful{u}, p.Sources, tags, workers, map[api.Mod]looked{}}
}

// packages is the packages of a module.
func (d *desk) packages(f modfile.File, m api.Mod) (shelf, api.Errno) {
	if m == mainOf(f) {
		return d.look(m, func() ([]api.File, api.Errno) { return d.sources, api.OK })
	}
	r := modfile.Replaced(f, m)
	return d.look(r, func() ([]api.File, api.Errno) { return d.u.Tree(r) })
}

// look is the packages of files, looked for once: a tidying comes back to the
// same modules again and again.
func (d *desk) look(key api.Mod, files func() ([]api.File, api.Errno)) (shelf, api.Errno) {
	found, there := d.shelves[key]
	if !there {
		l, e := files()
		if e == api.OK {
			found.shelf, e = newShelf(l, d.tags)
		}
		found.e = e
		d.shelves[key] = found
	}
	return found.shelf, found.e
}

// build is the build list of a manifest.
func (d *desk) build(f modfile.File) ([]api.Mod, api.Errno) { return build(f, d.u, d.workers) }
