package plan_test

import (
	"fmt"
	"maps"
	"slices"
	"strings"

	"mews/api"
	"mews/mod"
	"mews/modfile"
	"mews/mvs"
	"mews/plan"
	"mews/sumfile"
)

// A second reading of the chapter, over what worlds and projects are made of in
// place of their texts. It leans on mvs and on mod, and on modfile for the text
// of a new manifest alone.

// script is a source, or another file.
type script struct {
	dir, base string
	never     bool   // by its name it never counts
	system    string // the tag that its name asks for
	asks      string // the tag that its constraint asks for; `!` ahead: not for
	imports   []string
	bad       api.Errno // what reading it says
}

func (s script) name() string {
	if s.dir == "" {
		return s.base
	}
	return s.dir + "/" + s.base
}

// text is the file's text; each one's is its own, whatever it imports.
func (s script) text() string {
	var head string
	if s.asks != "" {
		head = "//go:build " + s.asks + "\n"
	}
	switch s.bad {
	case api.ErrSyntax:
		return head + "bad"
	case api.ErrPath:
		return head + "package p\nimport \"/\"\n"
	}
	return head + source(s.imports...) + "// " + s.name() + "\n"
}

// named tells whether the file counts by its name.
func (s script) named(tags []string) bool {
	return !s.never && (s.system == "" || slices.Contains(tags, s.system))
}

// counts tells whether the file counts, name and constraint.
func (s script) counts(tags []string) bool {
	not, denied := strings.CutPrefix(s.asks, "!")
	return s.named(tags) && (s.asks == "" || slices.Contains(tags, not) != denied)
}

func filesOf(l []script) []api.File {
	var files []api.File
	for _, s := range l {
		files = append(files, file(s.name(), s.text()))
	}
	return files
}

// thing is a module that is sold.
type thing struct {
	mod      api.Mod
	says     string // the path that its manifest says; without one that is refused
	requires []api.Mod
	pruned   bool
	scripts  []script
}

func (x thing) manifest() string {
	if x.says == "" {
		return "refused\n"
	}
	text := "module " + x.says + "\n"
	if x.pruned {
		text += "go 1.20\n"
	}
	for _, m := range x.requires {
		text += "require " + pair(m) + "\n"
	}
	return text
}

func (x thing) sold() plan.Sold {
	return plan.Sold{Mod: x.mod, Manifest: []byte(x.manifest()), Files: filesOf(x.scripts)}
}

// world is what is sold.
type world []thing

func (w world) sold() []plan.Sold {
	var l []plan.Sold
	for _, x := range w {
		l = append(l, x.sold())
	}
	return l
}

func (w world) find(m api.Mod) (thing, bool) {
	for _, x := range w {
		if x.mod == m {
			return x, true
		}
	}
	return thing{}, false
}

// work is a project.
type work struct {
	file    modfile.File
	lock    map[string]string // sums, by what they are of
	scripts []script
	vendor  []api.File
	bad     string // what stands in the lock besides
}

// lockText is a lock's text.
func lockText(lock map[string]string) string {
	var l []sumfile.Line
	for name, sum := range lock {
		path, version, _ := strings.Cut(name, " ")
		version, isManifest := strings.CutSuffix(version, "/go.mod")
		line := sumfile.Line{Mod: api.Mod{Path: path, Version: version}, Sum: sum}
		if isManifest {
			line.Kind = sumfile.Manifest
		}
		l = append(l, line)
	}
	slices.SortFunc(l, func(a, b sumfile.Line) int {
		if a.Mod == b.Mod {
			return a.Kind - b.Kind
		}
		if mod.Less(a.Mod, b.Mod) {
			return -1
		}
		return 1
	})
	var text strings.Builder
	for _, line := range l {
		text.WriteString(line.Mod.Path + " " + line.Mod.Version + []string{"", "/go.mod"}[line.Kind] + " " + line.Sum + "\n")
	}
	return text.String()
}

// model is the second reading of a call.
type model struct {
	world  world
	work   work
	faults faulty
	tags   []string
}

func (m model) main() api.Mod { return api.Mod{Path: m.work.file.Module} }

func (m model) isExcluded(x api.Mod) bool { return slices.Contains(m.work.file.Exclude, x) }

// place is what stands in a module's place.
func (m model) place(x api.Mod) api.Mod {
	for _, old := range []api.Mod{x, {Path: x.Path}} {
		for _, r := range m.work.file.Replace {
			if r.Old == old {
				return r.New
			}
		}
	}
	return x
}

func (m model) without(l []api.Mod) []api.Mod {
	var kept []api.Mod
	for _, x := range l {
		if !m.isExcluded(x) {
			kept = append(kept, x)
		}
	}
	return kept
}

// required is what modules require, where main requires these.
func (m model) required(requires []modfile.Require) mvs.Required {
	return func(x api.Mod) ([]api.Mod, bool, api.Errno) {
		if x == m.main() {
			var l []api.Mod
			for _, r := range requires {
				l = append(l, api.Mod{Path: r.Path, Version: r.Version})
			}
			return m.without(l), m.work.file.Go == "1.17", api.OK
		}
		r := m.place(x)
		if e := m.faults.manifests[r]; e != api.OK {
			return nil, false, e
		}
		there, ok := m.world.find(r)
		switch {
		case !ok:
			return nil, false, api.ErrNone
		case there.says == "", r == x && there.says != x.Path:
			return nil, false, api.ErrReply
		}
		return m.without(there.requires), there.pruned, api.OK
	}
}

func (m model) list(requires []modfile.Require) ([]api.Mod, api.Errno) {
	return mvs.Build(m.main(), m.required(requires), 1)
}

// versions is what the universe says of a path, greatest first.
func (m model) versions(path string) ([]string, api.Errno) {
	if e := m.faults.versions[path]; e != api.OK {
		return nil, e
	}
	sold := false
	var l []string
	for _, x := range m.world {
		if x.mod.Path == path {
			sold = true
			if !strings.Contains(x.mod.Version, stamp) {
				l = append(l, x.mod.Version)
			}
		}
	}
	if !sold {
		return nil, api.ErrNone
	}
	slices.SortFunc(l, func(a, b string) int { return mod.Compare(b, a) })
	return l, api.OK
}

// scripts is the files of a module.
func (m model) scripts(x api.Mod) ([]script, api.Errno) {
	if x == m.main() {
		return m.work.scripts, api.OK
	}
	r := m.place(x)
	if e := m.faults.tree[r]; e != api.OK {
		return nil, e
	}
	there, ok := m.world.find(r)
	if !ok {
		return nil, api.ErrNone
	}
	return there.scripts, api.OK
}

// dirs is the directories of a module that are packages, with what they import.
func (m model) dirs(x api.Mod) (map[string][]string, api.Errno) {
	l, e := m.scripts(x)
	if e != api.OK {
		return nil, e
	}
	l = slices.Clone(l)
	slices.SortFunc(l, func(a, b script) int { return strings.Compare(a.name(), b.name()) })
	dirs := map[string][]string{}
	for _, s := range l {
		if s.named(m.tags) && s.bad != api.OK {
			return nil, s.bad
		}
		if s.counts(m.tags) {
			dirs[s.dir] = append(dirs[s.dir], s.imports...)
		}
	}
	for dir, imports := range dirs {
		slices.Sort(imports)
		dirs[dir] = slices.Compact(imports)
	}
	return dirs, api.OK
}

// join is the import's path of a directory.
func join(path, dir string) string { return strings.TrimSuffix(path+"/"+dir, "/") }

// nearest is the module of the list that an import is of.
func nearest(list []api.Mod, path string) (api.Mod, bool) {
	var best api.Mod
	for _, x := range list {
		if (path == x.Path || strings.HasPrefix(path, x.Path+"/")) && len(x.Path) > len(best.Path) {
			best = x
		}
	}
	return best, best.Path != ""
}

// wants is what is needed.
type wants struct {
	vendored []sumfile.Vendored
	direct   map[string]bool // paths of modules that main imports
	missing  string          // an import without a module
}

// needed looks for it by distances from main: a package of the module at index
// i of the list is there, as `i dir`, with the round in which it is looked at.
func (m model) needed(requires []modfile.Require) (wants, api.Errno) {
	list, e := m.list(requires)
	if e != api.OK {
		return wants{}, e
	}
	type key struct {
		at  int
		dir string
	}
	round := map[key]int{}
	own, e := m.dirs(m.main())
	if e != api.OK {
		return wants{}, e
	}
	for dir := range own {
		round[key{0, dir}] = 1
	}
	w := wants{direct: map[string]bool{}}
	for now := 1; ; now++ {
		fresh := map[string]key{}
		for k, r := range round {
			if r == now {
				fresh[join(list[k.at].Path, k.dir)] = k
			}
		}
		if len(fresh) == 0 {
			break
		}
		for _, path := range slices.Sorted(maps.Keys(fresh)) {
			from := fresh[path]
			dirs, e := m.dirs(list[from.at])
			if e != api.OK {
				return wants{}, e
			}
			for _, to := range dirs[from.dir] {
				if first, _, _ := strings.Cut(to, "/"); !strings.Contains(first, ".") {
					continue
				}
				x, ok := nearest(list, to)
				if !ok {
					return wants{missing: to}, api.ErrMissing
				}
				there, e := m.dirs(x)
				if e != api.OK {
					return wants{}, e
				}
				dir := strings.TrimPrefix(to[len(x.Path):], "/")
				if _, ok := there[dir]; !ok {
					return wants{}, api.ErrMissing
				}
				k := key{slices.Index(list, x), dir}
				if round[k] == 0 {
					round[k] = now + 1
				}
				if from.at == 0 && k.at > 0 {
					w.direct[x.Path] = true
				}
			}
		}
	}
	for i, x := range list[1:] {
		v := sumfile.Vendored{Mod: x}
		for k := range round {
			if k.at == i+1 {
				v.Packages = append(v.Packages, join(x.Path, k.dir))
			}
		}
		for _, r := range requires {
			v.Explicit = v.Explicit || r.Path == x.Path && !r.Indirect
		}
		slices.Sort(v.Packages)
		if v.Packages != nil {
			w.vendored = append(w.vendored, v)
		}
	}
	return w, api.OK
}

// lock is the lock of a list.
func (m model) lock(list []api.Mod) (string, api.Errno) {
	lines := map[string]string{}
	for _, x := range list[1:] {
		r := m.place(x)
		there, ok := m.world.find(r)
		switch {
		case m.faults.manifests[r] != api.OK:
			return "", m.faults.manifests[r]
		case !ok:
			return "", api.ErrNone
		case m.faults.tree[r] != api.OK:
			return "", m.faults.tree[r]
		}
		name := r.Path + " " + r.Version
		lines[name] = sumOf(filesOf(there.scripts), r.Path+"@"+r.Version+"/")
		lines[name+"/go.mod"] = sumOf([]api.File{file("go.mod", there.manifest())}, "")
	}
	for name, sum := range lines {
		if was, ok := m.work.lock[name]; ok && was != sum {
			return "", api.ErrMismatch
		}
	}
	return lockText(lines), api.OK
}

// vendor is the vendored tree.
func (m model) vendor(need []sumfile.Vendored) ([]api.File, api.Errno) {
	var tree []api.File
	var list strings.Builder
	for _, v := range need {
		l, e := m.scripts(v.Mod)
		if e != api.OK {
			return nil, e
		}
		fmt.Fprintf(&list, "# %s %s\n", v.Mod.Path, v.Mod.Version)
		if v.Explicit {
			list.WriteString("## explicit\n")
		}
		for _, path := range v.Packages {
			list.WriteString(path + "\n")
			for _, s := range l {
				if join(v.Mod.Path, s.dir) == path && s.counts(m.tags) {
					tree = append(tree, file(path+"/"+s.base, s.text()))
				}
			}
		}
	}
	tree = append(tree, file("modules.txt", list.String()))
	slices.SortFunc(tree, func(a, b api.File) int { return strings.Compare(a.Name, b.Name) })
	return tree, api.OK
}

// latest is a path's latest version; empty, if there is none.
func (m model) latest(path string) (string, api.Errno) {
	l, e := m.versions(path)
	if e != api.OK {
		return "", e
	}
	for _, mayHavePre := range []bool{false, true} {
		for _, v := range l {
			if (mayHavePre || !strings.Contains(v, "-")) && !m.isExcluded(api.Mod{Path: path, Version: v}) {
				return v, api.OK
			}
		}
	}
	return "", api.OK
}

func (m model) previous(x api.Mod) (string, bool) {
	l, _ := m.versions(x.Path)
	for _, v := range l {
		if mod.Compare(v, x.Version) < 0 && !m.isExcluded(api.Mod{Path: x.Path, Version: v}) {
			return v, true
		}
	}
	return "", false
}
