package plan

import (
	"cmp"
	"slices"

	"mews/api"
	"mews/mod"
	"mews/modfile"
	"mews/mvs"
)

// Words that stand in the place of a version.
const (
	wordLatest = "latest"
	wordNone   = "none"
)

// get chooses a module at a version, or none of it.
func (s *step) get() (choice, api.Errno) {
	path := s.wish.Path
	if e := mod.CheckPath(path); e != api.OK {
		return choice{}, e
	}
	if path == s.file.Module {
		return choice{}, api.ErrThere
	}
	if s.wish.Version == wordNone {
		list, e := s.lowered(api.Mod{Path: path})
		return choice{list, slices.DeleteFunc(s.direct(), func(p string) bool { return p == path })}, e
	}
	version, e := s.wished()
	if e != api.OK {
		return choice{}, e
	}
	list, e := s.moved(api.Mod{Path: path, Version: version})
	return choice{list, append(s.direct(), path)}, e
}

// wished is the version that is to be got.
func (s *step) wished() (string, api.Errno) {
	m := api.Mod{Path: s.wish.Path, Version: s.wish.Version}
	if m.Version == "" || m.Version == wordLatest {
		version, e := latest(s.file, m.Path, s.u)
		if e == api.OK && version == "" {
			e = api.ErrNone
		}
		return version, e
	}
	if e := mod.Check(m); e != api.OK {
		return "", e
	}
	if excluded(s.file, m) {
		return "", api.ErrExcluded
	}
	return m.Version, api.OK
}

// latest is the greatest version of a path that isn't excluded: of those without
// a pre, if there are any. Empty, if there is none.
func latest(f modfile.File, path string, u Universe) (string, api.Errno) {
	versions, e := u.Versions(path)
	if e != api.OK {
		return "", e
	}
	var greatest, whole string
	for _, version := range versions {
		_, _, _, pre, ok := mod.Parts(version)
		if !ok || excluded(f, api.Mod{Path: path, Version: version}) {
			continue
		}
		greatest = mod.Max(greatest, version)
		if pre == "" {
			whole = mod.Max(whole, version)
		}
	}
	return cmp.Or(whole, greatest), api.OK
}

// moved is the modules, where one is to be at a version.
func (s *step) moved(m api.Mod) ([]api.Mod, api.Errno) {
	list, e := s.build(s.file)
	if e != api.OK {
		return nil, e
	}
	version, there := versionIn(list, m.Path)
	if there && mod.Compare(version, m.Version) > 0 {
		return s.lowered(m)
	}
	return s.raised([]api.Mod{m})
}

// upgrade chooses the latest versions of what is required directly.
func (s *step) upgrade() (choice, api.Errno) {
	direct := s.direct()
	newest, e := s.newest(direct)
	if e != api.OK {
		return choice{}, e
	}
	list, e := s.build(s.file)
	if e != api.OK {
		return choice{}, e
	}
	var up []api.Mod
	for _, m := range newest {
		if greater(m, list) {
			up = append(up, m)
		}
	}
	list, e = s.raised(up)
	return choice{list, direct}, e
}

// newest is paths at their latest versions, but those that have none.
func (s *step) newest(paths []string) ([]api.Mod, api.Errno) {
	var list []api.Mod
	for _, path := range paths {
		version, e := latest(s.file, path, s.u)
		if e != api.OK && e != api.ErrNone {
			return nil, e
		}
		if version != "" {
			list = append(list, api.Mod{Path: path, Version: version})
		}
	}
	return list, api.OK
}

// downgrade chooses a lower version of a module.
func (s *step) downgrade() (choice, api.Errno) {
	m := api.Mod{Path: s.wish.Path, Version: s.wish.Version}
	if e := mod.Check(m); e != api.OK {
		return choice{}, e
	}
	list, e := s.build(s.file)
	if e != api.OK {
		return choice{}, e
	}
	version, there := versionIn(list, m.Path)
	if !there {
		return choice{}, api.ErrNone
	}
	if mod.Compare(version, m.Version) < 0 {
		return choice{}, api.ErrVersion
	}
	list, e = s.lowered(m)
	return choice{list, s.direct()}, e
}

// raised is the modules, where some are to be there.
func (s *step) raised(up []api.Mod) ([]api.Mod, api.Errno) {
	return butMain(mvs.Upgrade(mainOf(s.file), s.required(), up, s.workers))
}

// lowered is the modules, where one may not be greater.
func (s *step) lowered(m api.Mod) ([]api.Mod, api.Errno) {
	return butMain(mvs.Downgrade(mainOf(s.file), s.required(), []api.Mod{m}, s.previous, s.workers))
}

// butMain is a build list without main.
func butMain(list []api.Mod, e api.Errno) ([]api.Mod, api.Errno) {
	if e != api.OK {
		return nil, e
	}
	return list[1:], api.OK
}

// previous is the version ahead of a module's.
func (s *step) previous(m api.Mod) (string, bool) {
	versions, _ := s.u.Versions(m.Path)
	var best string
	for _, version := range versions {
		less := mod.ValidVersion(version) && mod.Compare(version, m.Version) < 0
		if less && !excluded(s.file, api.Mod{Path: m.Path, Version: version}) {
			best = mod.Max(best, version)
		}
	}
	return best, best != ""
}
