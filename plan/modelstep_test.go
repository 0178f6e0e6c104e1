package plan_test

import (
	"maps"
	"slices"
	"strings"

	"mews/api"
	"mews/mod"
	"mews/modfile"
	"mews/mvs"
	"mews/plan"
)

// step is the second reading of Step. The lock is not looked at here, but for
// what it says.
func (m model) step(c plan.Command) (plan.Project, api.Errno) {
	if m.work.bad != "" {
		return plan.Project{}, api.ErrSyntax
	}
	if c.Kind == plan.CVendor {
		return m.vendoring()
	}
	direct := map[string]bool{}
	for _, r := range m.work.file.Require {
		if !r.Indirect {
			direct[r.Path] = true
		}
	}
	var list []api.Mod
	var e api.Errno
	switch c.Kind {
	case plan.CGet:
		list, e = m.getting(c, direct)
	case plan.CUpgrade:
		list, e = m.upgrading(direct)
	case plan.CDowngrade:
		list, e = m.downgrading(c)
	case plan.CTidy:
		list, direct, e = m.tidying()
	}
	if e != api.OK {
		return plan.Project{}, e
	}
	return m.changed(list, direct)
}

// changed is the project with the fewest requirements of a list, main first.
func (m model) changed(list []api.Mod, direct map[string]bool) (plan.Project, api.Errno) {
	req := mvs.With(m.main(), m.required(m.work.file.Require), list[1:])
	fewest, e := mvs.Minimal(m.main(), req, slices.Collect(maps.Keys(direct)), 1)
	if e != api.OK {
		return plan.Project{}, e
	}
	f := m.work.file
	f.Require = nil
	for _, x := range fewest {
		f.Require = append(f.Require, modfile.Require{Path: x.Path, Version: x.Version, Indirect: !direct[x.Path]})
	}
	text, e := modfile.Format(f)
	if e != api.OK {
		return plan.Project{}, e
	}
	after, e := m.list(f.Require)
	if e != api.OK {
		return plan.Project{}, e
	}
	locked, e := m.lock(after)
	if e != api.OK {
		return plan.Project{}, e
	}
	return plan.Project{Manifest: text, Lock: locked, Sources: filesOf(m.work.scripts), Vendor: m.work.vendor}, api.OK
}

// vendoring leaves the manifest's text to who asks.
func (m model) vendoring() (plan.Project, api.Errno) {
	list, e := m.list(m.work.file.Require)
	if e != api.OK {
		return plan.Project{}, e
	}
	locked, e := m.lock(list)
	if e != api.OK {
		return plan.Project{}, e
	}
	w, e := m.needed(m.work.file.Require)
	if e != api.OK {
		return plan.Project{}, e
	}
	tree, e := m.vendor(w.vendored)
	if e != api.OK {
		return plan.Project{}, e
	}
	return plan.Project{Lock: locked, Sources: filesOf(m.work.scripts), Vendor: tree}, api.OK
}

func (m model) up(l ...api.Mod) ([]api.Mod, api.Errno) {
	return mvs.Upgrade(m.main(), m.required(m.work.file.Require), l, 1)
}

func (m model) down(x api.Mod) ([]api.Mod, api.Errno) {
	return mvs.Downgrade(m.main(), m.required(m.work.file.Require), []api.Mod{x}, m.previous, 1)
}

// at is the version of a path that isn't main's.
func (m model) at(list []api.Mod, path string) (string, bool) {
	for _, x := range list {
		if x.Path == path && x != m.main() {
			return x.Version, true
		}
	}
	return "", false
}

func (m model) getting(c plan.Command, direct map[string]bool) ([]api.Mod, api.Errno) {
	x := api.Mod{Path: c.Path, Version: c.Version}
	if e := mod.CheckPath(x.Path); e != api.OK {
		return nil, e
	}
	if x.Path == m.main().Path {
		return nil, api.ErrThere
	}
	if x.Version == "none" {
		delete(direct, x.Path)
		return m.down(api.Mod{Path: x.Path})
	}
	direct[x.Path] = true
	if x.Version == "" || x.Version == "latest" {
		v, e := m.latest(x.Path)
		if e != api.OK {
			return nil, e
		}
		if v == "" {
			return nil, api.ErrNone
		}
		x.Version = v
	} else if e := mod.Check(x); e != api.OK {
		return nil, e
	} else if m.isExcluded(x) {
		return nil, api.ErrExcluded
	}
	list, e := m.list(m.work.file.Require)
	if e != api.OK {
		return nil, e
	}
	if v, ok := m.at(list, x.Path); ok && mod.Compare(v, x.Version) > 0 {
		return m.down(x)
	}
	return m.up(x)
}

func (m model) upgrading(direct map[string]bool) ([]api.Mod, api.Errno) {
	newest := map[string]string{}
	for _, path := range slices.Sorted(maps.Keys(direct)) {
		v, e := m.latest(path)
		if e != api.OK && e != api.ErrNone {
			return nil, e
		}
		newest[path] = v
	}
	list, e := m.list(m.work.file.Require)
	if e != api.OK {
		return nil, e
	}
	var l []api.Mod
	for path, v := range newest {
		if is, _ := m.at(list, path); v != "" && mod.Compare(v, is) > 0 {
			l = append(l, api.Mod{Path: path, Version: v})
		}
	}
	return m.up(l...)
}

func (m model) downgrading(c plan.Command) ([]api.Mod, api.Errno) {
	x := api.Mod{Path: c.Path, Version: c.Version}
	if e := mod.Check(x); e != api.OK {
		return nil, e
	}
	list, e := m.list(m.work.file.Require)
	if e != api.OK {
		return nil, e
	}
	v, ok := m.at(list, x.Path)
	if !ok {
		return nil, api.ErrNone
	}
	if mod.Compare(v, x.Version) < 0 {
		return nil, api.ErrVersion
	}
	return m.down(x)
}

func (m model) tidying() ([]api.Mod, map[string]bool, api.Errno) {
	requires := m.work.file.Require
	for added := 0; ; added++ {
		w, e := m.needed(requires)
		if e == api.OK {
			list := []api.Mod{m.main()}
			for _, v := range w.vendored {
				list = append(list, v.Mod)
			}
			return list, w.direct, api.OK
		}
		if w.missing == "" {
			return nil, nil, e
		}
		x, ok := m.provider(w.missing)
		if !ok {
			return nil, nil, api.ErrMissing
		}
		if added == api.MaxMods {
			return nil, nil, api.ErrMany
		}
		requires = append(slices.Clone(requires), modfile.Require{Path: x.Path, Version: x.Version})
	}
}

// provider is the first front's latest that has an import.
func (m model) provider(path string) (api.Mod, bool) {
	elements := strings.Split(path, "/")
	for n := len(elements); n > 0; n-- {
		front := strings.Join(elements[:n], "/")
		v, e := m.latest(front)
		if e != api.OK || v == "" || mod.CheckPath(front) != api.OK {
			continue
		}
		x := api.Mod{Path: front, Version: v}
		dirs, e := m.dirs(x)
		if _, has := dirs[strings.Join(elements[n:], "/")]; has && e == api.OK {
			return x, true
		}
	}
	return api.Mod{}, false
}
