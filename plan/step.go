package plan

import (
	"slices"

	"mews/api"
	"mews/mod"
	"mews/modfile"
	"mews/mvs"
	"mews/sumfile"
)

// step is a command under way.
type step struct {
	*desk
	project Project
	wish    Command
	file    modfile.File
	lines   []sumfile.Line // of the lock
}

// command is how one is done. What it makes has neither sources nor, if it
// leaves that alone, a vendored tree.
type command struct {
	do func() (Project, api.Errno)
}

// choice is what main is to require: modules, and the paths of those that it
// requires directly.
type choice struct {
	list   []api.Mod
	direct []string
}

// Step is what a command makes of a project.
func Step(p Project, c Command, u Universe, tags []string, workers int) (Project, api.Errno) {
	if !mayWork(workers) {
		return Project{}, api.ErrRange
	}
	s := &step{desk: newDesk(p, u, tags, workers), project: p, wish: c}
	known, there := commands(s)[c.Kind]
	if !there {
		return Project{}, api.ErrKind
	}
	if e := s.read(); e != api.OK {
		return Project{}, e
	}
	next, e := known.do()
	if e != api.OK {
		return Project{}, e
	}
	next.Sources = copied(p.Sources)
	return next, api.OK
}

// read reads manifest and lock.
func (s *step) read() (e api.Errno) {
	if s.file, _, e = modfile.Parse(s.project.Manifest); e != api.OK {
		return e
	}
	s.lines, _, e = sumfile.Parse(s.project.Lock)
	return e
}

func commands(s *step) map[int]command {
	choosing := func(choose func() (choice, api.Errno)) command {
		return command{func() (Project, api.Errno) {
			c, e := choose()
			if e != api.OK {
				return Project{}, e
			}
			return s.require(c)
		}}
	}
	return map[int]command{
		CGet:       choosing(s.get),
		CTidy:      choosing(s.tidy),
		CUpgrade:   choosing(s.upgrade),
		CDowngrade: choosing(s.downgrade),
		CVendor:    {s.vendor},
	}
}

// require makes a choice the manifest's.
func (s *step) require(c choice) (Project, api.Errno) {
	main := mainOf(s.file)
	fewest, e := mvs.Minimal(main, mvs.With(main, s.required(), c.list), c.direct, s.workers)
	if e != api.OK {
		return Project{}, e
	}
	f := s.file
	f.Require = nil
	for _, m := range fewest {
		f.Require = append(f.Require, modfile.Require{Path: m.Path, Version: m.Version, Indirect: !slices.Contains(c.direct, m.Path)})
	}
	text, e := modfile.Format(f)
	if e != api.OK {
		return Project{}, e
	}
	locked, e := s.lock(f)
	if e != api.OK {
		return Project{}, e
	}
	return Project{Manifest: text, Lock: locked, Vendor: copied(s.project.Vendor)}, api.OK
}

// lock is the lock of a manifest's build list.
func (s *step) lock(f modfile.File) (string, api.Errno) {
	list, e := s.build(f)
	if e != api.OK {
		return "", e
	}
	return lockOf(f, s.lines, list, s.u, s.workers)
}

// vendor leaves the manifest's text as it is.
func (s *step) vendor() (Project, api.Errno) {
	locked, e := s.lock(s.file)
	if e != api.OK {
		return Project{}, e
	}
	found, _, e := s.need(s.file)
	if e != api.OK {
		return Project{}, e
	}
	tree, e := vendorOf(s.file, found.vendored(), s.u, s.tags)
	if e != api.OK {
		return Project{}, e
	}
	return Project{Manifest: s.project.Manifest, Lock: locked, Vendor: tree}, api.OK
}

func (s *step) required() mvs.Required { return required(s.file, s.u) }

// direct are the paths that the manifest requires directly, rising.
func (s *step) direct() []string {
	var paths []string
	for _, r := range s.file.Require {
		if !r.Indirect {
			paths = append(paths, r.Path)
		}
	}
	return paths
}

// versionIn is the version of a path in a build list, but main's.
func versionIn(list []api.Mod, path string) (string, bool) {
	for _, m := range list[1:] {
		if m.Path == path {
			return m.Version, true
		}
	}
	return "", false
}

// greater tells whether a module is greater than the one that a build list has,
// if that has any.
func greater(m api.Mod, list []api.Mod) bool {
	version, there := versionIn(list, m.Path)
	return !there || mod.Compare(m.Version, version) > 0
}
