package plan

import (
	"slices"

	"mews/api"
	"mews/modfile"
	"mews/mvs"
)

// Required is what modules require.
func Required(p Project, u Universe) (api.Mod, mvs.Required, api.Errno) {
	f, _, e := modfile.Parse(p.Manifest)
	if e != api.OK {
		return api.Mod{}, nil, e
	}
	return mainOf(f), required(f, careful{u}), api.OK
}

// List is a project's build list.
func List(p Project, u Universe, workers int) ([]api.Mod, api.Errno) {
	f, _, e := modfile.Parse(p.Manifest)
	if e != api.OK {
		return nil, e
	}
	return build(f, careful{u}, workers)
}

// build is the build list of a manifest.
func build(f modfile.File, u Universe, workers int) ([]api.Mod, api.Errno) {
	return mvs.Build(mainOf(f), required(f, u), workers)
}

// mainOf is the module that a manifest is of.
func mainOf(f modfile.File) api.Mod { return api.Mod{Path: f.Module} }

// required is what modules require, where a manifest is main's.
func required(f modfile.File, u Universe) mvs.Required {
	return func(m api.Mod) ([]api.Mod, bool, api.Errno) {
		said := f
		if m != mainOf(f) {
			var e api.Errno
			if said, e = manifestOf(f, m, u); e != api.OK {
				return nil, false, e
			}
		}
		return allowed(f, said.Require), modfile.Pruned(said), api.OK
	}
}

// manifestOf is the manifest of what stands in a module's place. Only a module
// that stands in its own must say its path.
func manifestOf(f modfile.File, m api.Mod, u Universe) (modfile.File, api.Errno) {
	r := modfile.Replaced(f, m)
	text, e := u.Manifest(r)
	if e != api.OK {
		return modfile.File{}, e
	}
	said, _, e := modfile.Parse(string(text))
	if e != api.OK || r == m && said.Module != m.Path {
		return modfile.File{}, api.ErrReply
	}
	return said, api.OK
}

// allowed is those of requires that a manifest does not exclude.
func allowed(f modfile.File, requires []modfile.Require) []api.Mod {
	var list []api.Mod
	for _, r := range requires {
		if m := (api.Mod{Path: r.Path, Version: r.Version}); !excluded(f, m) {
			list = append(list, m)
		}
	}
	return list
}

func excluded(f modfile.File, m api.Mod) bool { return slices.Contains(f.Exclude, m) }
