package plan

import (
	"slices"
	"strings"

	"mews/api"
	"mews/mod"
	"mews/modfile"
)

// tidy chooses just what is needed. What an import has no module for is
// required besides, until nothing is missing any more.
func (s *step) tidy() (choice, api.Errno) {
	f := s.file
	for range api.MaxMods + 1 {
		found, missing, e := s.need(f)
		switch {
		case e == api.OK:
			return choice{found.modules(), found.directs()}, api.OK
		case missing == "":
			return choice{}, e
		}
		m, e := s.provider(missing)
		if e != api.OK {
			return choice{}, e
		}
		f = requiring(f, m)
	}
	return choice{}, api.ErrMany
}

// requiring is the manifest with one more required module. If its path stands
// there already, then at a version that is excluded, which nobody looks at.
func requiring(f modfile.File, m api.Mod) modfile.File {
	f.Require = append(slices.Clone(f.Require), modfile.Require{Path: m.Path, Version: m.Version})
	return f
}

// provider is the module of the longest front of an import that has it.
func (s *step) provider(path string) (api.Mod, api.Errno) {
	for front, more := path, true; more; front, more = shorter(front) {
		if mod.CheckPath(front) != api.OK || front == s.file.Module {
			continue
		}
		if m, has := s.provides(front, path); has {
			return m, api.OK
		}
	}
	return api.Mod{}, api.ErrMissing
}

// shorter is what stands ahead of a path's last `/`, if it has one.
func shorter(path string) (string, bool) {
	slash := strings.LastIndexByte(path, '/')
	return path[:max(slash, 0)], slash >= 0
}

// provides is a module at its latest version, and whether that has a package.
func (s *step) provides(module, path string) (api.Mod, bool) {
	version, e := latest(s.file, module, s.u)
	if e != api.OK || version == "" {
		return api.Mod{}, false
	}
	m := api.Mod{Path: module, Version: version}
	packages, e := s.packages(s.file, m)
	if e != api.OK {
		return api.Mod{}, false
	}
	dir, _ := dirOf(module, path)
	_, has := packages[dir]
	return m, has
}
