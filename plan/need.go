package plan

import (
	"maps"
	"slices"
	"strings"

	"mews/api"
	"mews/modfile"
	"mews/scan"
	"mews/sumfile"
)

// mostPackages is how many packages may be needed.
const mostPackages = 10 * api.MaxMods

// pack is a package. Its import's path alone would not do: a directory of main
// may have the path of another module's package.
type pack struct{ module, dir string }

func (p pack) path() string { return importPath(p.module, p.dir) }

// search is how far it is known which packages are needed.
type search struct {
	*desk
	file    modfile.File
	list    []api.Mod           // the build list, main first
	mods    map[string]api.Mod  // its modules, by their paths
	paths   []string            // their paths
	needed  map[pack]struct{}   // those that are known so far
	waiting []pack              // those of them that were not looked at yet
	direct  map[string]struct{} // the modules, but main, of packages that main imports
}

// Needed are the modules and packages that a project needs.
func Needed(p Project, u Universe, tags []string, workers int) ([]sumfile.Vendored, api.Errno) {
	f, _, e := modfile.Parse(p.Manifest)
	if e != api.OK {
		return nil, e
	}
	s, _, e := newDesk(p, u, tags, workers).need(f)
	if e != api.OK {
		return nil, e
	}
	return s.vendored(), api.OK
}

// need looks for all packages that are needed, where a manifest is main's.
// Beside an error stands the import that has no module, if that is why.
func (d *desk) need(f modfile.File) (*search, string, api.Errno) {
	list, e := d.build(f)
	if e != api.OK {
		return nil, "", e
	}
	s := newSearch(d, f, list)
	own, e := d.packages(f, mainOf(f))
	if e != api.OK {
		return nil, "", e
	}
	for dir := range own {
		s.add(pack{f.Module, dir})
	}
	for len(s.waiting) > 0 {
		if missing, e := s.round(); e != api.OK {
			return nil, missing, e
		}
	}
	return s, "", api.OK
}

func newSearch(d *desk, f modfile.File, list []api.Mod) *search {
	s := &search{desk: d, file: f, list: list, mods: map[string]api.Mod{}, needed: map[pack]struct{}{}, direct: map[string]struct{}{}}
	for _, m := range list {
		s.mods[m.Path] = m
		s.paths = append(s.paths, m.Path)
	}
	return s
}

// add needs a package.
func (s *search) add(p pack) {
	if _, there := s.needed[p]; !there {
		s.needed[p] = struct{}{}
		s.waiting = append(s.waiting, p)
	}
}

// round looks at the packages that are new.
func (s *search) round() (string, api.Errno) {
	fresh := s.waiting
	s.waiting = nil
	slices.SortFunc(fresh, func(a, b pack) int { return strings.Compare(a.path(), b.path()) })
	for _, p := range fresh {
		if missing, e := s.lookAt(p); e != api.OK {
			return missing, e
		}
	}
	if len(s.needed) > mostPackages {
		return "", api.ErrMany
	}
	return "", api.OK
}

// lookAt needs what a package imports.
func (s *search) lookAt(p pack) (string, api.Errno) {
	own, e := s.packages(s.file, s.mods[p.module])
	if e != api.OK {
		return "", e
	}
	for _, path := range own[p.dir] {
		if scan.Std(path) {
			continue
		}
		if missing, e := s.lookFor(path, p.module == s.file.Module); e != api.OK {
			return missing, e
		}
	}
	return "", api.OK
}

// lookFor needs the package of an import, of main or of another module.
func (s *search) lookFor(path string, byMain bool) (string, api.Errno) {
	module, e := scan.Provider(path, s.paths)
	if e != api.OK {
		return path, e
	}
	there, e := s.packages(s.file, s.mods[module])
	if e != api.OK {
		return "", e
	}
	dir, _ := dirOf(module, path)
	if _, has := there[dir]; !has {
		return "", api.ErrMissing
	}
	s.add(pack{module, dir})
	if byMain && module != s.file.Module {
		s.direct[module] = struct{}{}
	}
	return "", api.OK
}

// vendored is what is needed of the modules of the build list but main.
func (s *search) vendored() []sumfile.Vendored {
	packages := map[string][]string{}
	for p := range s.needed {
		packages[p.module] = append(packages[p.module], p.path())
	}
	var list []sumfile.Vendored
	for _, m := range s.list[1:] {
		if of := packages[m.Path]; len(of) > 0 {
			slices.Sort(of)
			list = append(list, sumfile.Vendored{Mod: m, Explicit: explicit(s.file, m.Path), Packages: of})
		}
	}
	return list
}

// explicit tells whether a manifest requires a path, and not indirectly.
func explicit(f modfile.File, path string) bool {
	return slices.ContainsFunc(f.Require, func(r modfile.Require) bool { return r.Path == path && !r.Indirect })
}

// directs are the paths of the modules of packages that main imports.
func (s *search) directs() []string {
	return slices.Sorted(maps.Keys(s.direct))
}

// modules is the modules, but main, of which something is needed.
func (s *search) modules() []api.Mod {
	var list []api.Mod
	for _, v := range s.vendored() {
		list = append(list, v.Mod)
	}
	return list
}
