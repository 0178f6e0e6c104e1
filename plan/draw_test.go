package plan_test

import (
	"fmt"
	"maps"
	"math/rand"
	"slices"
	"strings"
	"testing"

	"mews/api"
	"mews/mod"
	"mews/modfile"
	"mews/plan"
	"mews/sumfile"
)

// The paths, versions and directories of what is drawn.
func drawnPaths() []string {
	return []string{"a.x", "a.x/b", "a.x/b/q", "a.x/c", "a.x/d", "a.x/e", "m.n/p/q", "z.z/y"}
}

func drawnVersions() []string {
	return []string{"v1.0.0", "v1.1.0", "v1.2.0", "v1.2.1-rc", "v1.3.0", "v1.1.1-0." + stamp}
}

func drawnDirs() []string { return []string{"", "q", "q/r", "s"} }

// chance is true so often of a hundred times.
func chance(r *rand.Rand, of int) bool { return r.Intn(100) < of }

// catalog is the directories that most versions of a path have.
type catalog map[string][]string

// drawCatalog is some of the paths, with some of the directories. Paths that
// stand ahead of others, or behind them, are rarer: they get in one another's way.
func drawCatalog(r *rand.Rand) catalog {
	c := catalog{}
	for at, path := range drawnPaths() {
		if chance(r, []int{25, 85, 40, 85, 85, 85, 40, 85}[at]) {
			for i, dir := range drawnDirs() {
				if chance(r, []int{90, 50, 20, 25}[i]) {
					c[path] = append(c[path], dir)
				}
			}
		}
	}
	return c
}

// drawImport is an import of what there is, mostly.
func drawImport(r *rand.Rand, c catalog) string {
	switch {
	case chance(r, 15) || len(c) == 0:
		return some(r, "fmt", "os", "net/url")
	case chance(r, 4):
		return join(mainPath, some(r, "", "", "q"))
	case chance(r, 2):
		return some(r, "y.y/none", "a.x/b+/c", "a.x/v1", "A.x/b", "a.x/f", "a.x/b/q/r", "a.x/b/s")
	}
	path := some(r, slices.Sorted(maps.Keys(c))...)
	return join(path, some(r, c[path]...))
}

// drawScript is a file in a directory, mostly a source.
func drawScript(r *rand.Rand, c catalog, dir string, at, most int) script {
	s := script{dir: dir, base: fmt.Sprint("x", at, ".go")}
	for range r.Intn(most + 1) {
		s.imports = append(s.imports, drawImport(r, c))
	}
	switch {
	case chance(r, 5):
		s.base, s.never = fmt.Sprint("x", at, "_test.go"), true
	case chance(r, 3):
		s.base, s.never, s.bad = fmt.Sprint("x", at, ".txt"), true, api.ErrSyntax
	case chance(r, 7):
		s.system = some(r, "linux", "darwin")
		s.base = fmt.Sprint("x", at, "_", s.system, ".go")
	}
	if chance(r, 7) {
		s.asks = some(r, "fast", "!fast", "linux")
	}
	return s
}

// drawScripts is files in directories, of which few are passed over.
func drawScripts(r *rand.Rand, c catalog, dirs []string, most int) []script {
	var l []script
	for _, dir := range dirs {
		if chance(r, 5) {
			continue
		}
		l = append(l, drawScript(r, c, dir, 0, most))
		if chance(r, 20) {
			l = append(l, drawScript(r, c, dir, 1, most))
		}
	}
	r.Shuffle(len(l), func(i, j int) { l[i], l[j] = l[j], l[i] })
	return l
}

// spoilt now and then is a script that can't be read.
func spoilt(r *rand.Rand, l []script, of int) []script {
	if len(l) > 0 && chance(r, of) {
		l[r.Intn(len(l))].bad = some(r, api.ErrSyntax, api.ErrPath)
	}
	return l
}

// drawWorld is modules that require and import one another; rough ones have
// faults.
func drawWorld(r *rand.Rand, c catalog, rough bool) world {
	var w world
	for _, path := range slices.Sorted(maps.Keys(c)) {
		for _, v := range drawnVersions() {
			if chance(r, 45) {
				w = append(w, thing{mod: api.Mod{Path: path, Version: v}, says: path, pruned: chance(r, 50)})
			}
		}
	}
	r.Shuffle(len(w), func(i, j int) { w[i], w[j] = w[j], w[i] })
	for i := range w {
		w[i].scripts = drawScripts(r, c, c[w[i].mod.Path], 1)
		w[i].requires = drawRequires(r, w, w[i].scripts, w[i].mod.Path, 1, 80, rough)
		if rough {
			w[i].scripts = spoilt(r, w[i].scripts, 3)
			if chance(r, 3) {
				w[i].says = some(r, "", "y.y/other")
			}
		}
	}
	return w
}

// drawRequires is modules of a world, each path once, but one: so often those of
// what scripts import, and others.
func drawRequires(r *rand.Rand, w world, scripts []script, but string, more, often int, rough bool) []api.Mod {
	var l []api.Mod
	add := func(m api.Mod) {
		twice := slices.ContainsFunc(l, func(x api.Mod) bool { return x.Path == m.Path })
		if m.Path != but && !twice {
			l = append(l, m)
		}
	}
	for _, s := range scripts {
		for _, path := range s.imports {
			if m := drawProvider(r, w, path); m.Path != "" && chance(r, often) {
				add(m)
			}
		}
	}
	for range r.Intn(more + 1) {
		switch {
		case rough && chance(r, 2):
			add(api.Mod{Path: "y.y/none", Version: "v1.0.0"})
		case len(w) > 0:
			add(some(r, w...).mod)
		}
	}
	return l
}

// drawProvider is a version of the longest front of an import that is sold.
func drawProvider(r *rand.Rand, w world, path string) api.Mod {
	var l []api.Mod
	for _, x := range w {
		if path != x.mod.Path && !strings.HasPrefix(path, x.mod.Path+"/") {
			continue
		}
		if len(l) > 0 && len(x.mod.Path) > len(l[0].Path) {
			l = nil
		}
		if len(l) == 0 || len(x.mod.Path) == len(l[0].Path) {
			l = append(l, x.mod)
		}
	}
	return some(r, append(l, api.Mod{})[:max(1, len(l))]...)
}

// drawWork is a project over a world.
func drawWork(r *rand.Rand, c catalog, w world, rough bool) work {
	p := work{lock: map[string]string{}, scripts: drawScripts(r, c, drawnDirs()[:1+r.Intn(3)], 3)}
	p.file.Module = mainPath
	if chance(r, 40) {
		p.file.Go = "1.17"
	}
	for _, m := range drawRequires(r, w, p.scripts, mainPath, 3, some(r, 100, 100, 50, 0), rough) {
		p.file.Require = append(p.file.Require, modfile.Require{Path: m.Path, Version: m.Version, Indirect: chance(r, 30)})
	}
	if chance(r, 40) && len(w) > 0 {
		for range 1 + r.Intn(3) {
			if m := some(r, w...).mod; !slices.Contains(p.file.Exclude, m) {
				p.file.Exclude = append(p.file.Exclude, m)
			}
		}
	}
	if chance(r, 40) && len(w) > 0 {
		old, other := some(r, w...).mod, some(r, w...).mod
		if chance(r, 50) {
			old.Version = ""
		}
		p.file.Replace = append(p.file.Replace, modfile.Replace{Old: old, New: other})
	}
	if chance(r, 20) {
		p.file.Retract = []modfile.Retract{{Low: "v1.0.0", High: "v1.0.0"}}
	}
	p.vendor = []api.File{file("old/x.go", "package old\n"), file("modules.txt", "# none\n")}[:r.Intn(3)]
	drawLock(r, w, &p, rough)
	if rough {
		p.scripts = spoilt(r, p.scripts, 4)
	}
	return p
}

// drawLock is lines of a world's modules, and of others; rough ones have another
// sum, or can't be read.
func drawLock(r *rand.Rand, w world, p *work, rough bool) {
	for _, x := range w {
		name := x.mod.Path + " " + x.mod.Version
		if chance(r, 30) {
			p.lock[name] = sumOf(filesOf(x.scripts), x.mod.Path+"@"+x.mod.Version+"/")
		}
		if chance(r, 30) {
			p.lock[name+"/go.mod"] = sumOf([]api.File{file("go.mod", x.manifest())}, "")
		}
		if rough && chance(r, 1) {
			p.lock[name+some(r, "", "/go.mod")] = otherSum
		}
	}
	if chance(r, 30) {
		p.lock["y.y/gone v1.0.0"] = otherSum
	}
	if rough && chance(r, 1) {
		p.bad = "bad\n"
	}
}

// project is the project's texts, its statements and files in any order.
func (p work) project(r *rand.Rand) plan.Project {
	var lines []string
	for _, x := range p.file.Require {
		line := "require " + x.Path + " " + x.Version
		if x.Indirect {
			line += " // indirect"
		}
		lines = append(lines, line)
	}
	for _, m := range p.file.Exclude {
		lines = append(lines, "exclude "+pair(m))
	}
	for _, x := range p.file.Replace {
		lines = append(lines, "replace "+strings.TrimSpace(x.Old.Path+" "+x.Old.Version)+" => "+pair(x.New))
	}
	for _, x := range p.file.Retract {
		lines = append(lines, "retract "+x.Low)
	}
	if p.file.Go != "" {
		lines = append(lines, "go "+p.file.Go)
	}
	r.Shuffle(len(lines), func(i, j int) { lines[i], lines[j] = lines[j], lines[i] })
	lines = append([]string{"module " + p.file.Module}, lines...)
	locked := strings.SplitAfter(lockText(p.lock), "\n")
	locked = locked[:len(locked)-1]
	r.Shuffle(len(locked), func(i, j int) { locked[i], locked[j] = locked[j], locked[i] })
	return plan.Project{Manifest: strings.Join(lines, "\n"), Lock: strings.Join(locked, "") + p.bad, Sources: filesOf(p.scripts), Vendor: p.vendor}
}

// drawFaults is what the universe says in place of answers.
func drawFaults(r *rand.Rand, w world) faulty {
	f := faults(nil, "")
	for _, x := range w {
		if chance(r, 2) {
			f.manifests[x.mod] = some(r, 41, api.ErrNet, api.ErrNone)
		}
		if chance(r, 2) {
			f.tree[x.mod] = some(r, 42, api.ErrNet, api.ErrNone)
		}
	}
	for _, path := range drawnPaths() {
		if chance(r, 4) {
			f.versions[path] = some(r, 43, api.ErrNone, api.ErrOffline)
		}
	}
	return f
}

// drawCommand is a command, of each kind.
func drawCommand(r *rand.Rand, w world, rough bool) plan.Command {
	c := plan.Command{Kind: 1 + r.Intn(5)}
	if c.Kind != plan.CGet && c.Kind != plan.CDowngrade {
		return c
	}
	c.Path, c.Version = some(r, drawnPaths()...), some(r, drawnVersions()...)
	if len(w) > 0 && chance(r, 70) {
		m := some(r, w...).mod
		c.Path, c.Version = m.Path, m.Version
	}
	if c.Kind == plan.CGet && chance(r, 40) {
		c.Version = some(r, "", "latest", "none")
	}
	if rough && chance(r, 10) {
		c.Path = some(r, mainPath, "y.y/none", "ab", "a.x/f")
	}
	if rough && chance(r, 5) {
		c.Version = some(r, "v2.0.0", "v9", "x", "v1.0.1")
	}
	return c
}

// drawn is all of what a call is about.
type drawn struct {
	model   model
	project plan.Project
	u       plan.Universe
	command plan.Command
}

func draw(t *testing.T, r *rand.Rand, rough bool) drawn {
	t.Helper()
	c := drawCatalog(r)
	m := model{world: drawWorld(r, c, rough), faults: faults(nil, "")}
	m.work = drawWork(r, c, m.world, rough)
	if rough {
		m.faults = drawFaults(r, m.world)
	}
	m.tags = [][]string{nil, {"linux"}, {"fast", "darwin"}, {"linux", "fast", "amd64"}}[r.Intn(4)]
	d := drawn{model: m, command: drawCommand(r, m.world, rough)}
	u := m.faults
	u.Universe = stillOf(t, m.world.sold())
	d.project, d.u = m.work.project(r), u
	return d
}

func (d drawn) String() string {
	var s strings.Builder
	fmt.Fprintf(&s, "%v %v\n%s\nlock %s\n%s", d.command, d.model.tags, d.project.Manifest, d.project.Lock, toldFiles(d.project.Sources))
	fmt.Fprintf(&s, "%v %v %v", d.model.faults.versions, d.model.faults.manifests, d.model.faults.tree)
	return s.String()
}

// draws is how many a test tries.
const draws = 6000

// What commands make of projects, by both readings.
func TestP16_6_Drawn(t *testing.T) {
	t.Parallel()
	n := tally{}
	for seed := range draws {
		r := rand.New(rand.NewSource(int64(seed)))
		d := draw(t, r, seed%2 == 1)
		want, wantE := d.model.step(d.command)
		if wantE == api.OK && d.command.Kind == plan.CVendor {
			want.Manifest = d.project.Manifest
		}
		for _, workers := range []int{1, some(r, 2, 3, 7, 8, 9, api.MaxWorkers)} {
			next, e := plan.Step(d.project, d.command, d.u, d.model.tags, workers)
			if e != wantE || toldProject(next) != toldProject(want) {
				t.Fatalf("seed %d, %s\nanswers %d %s\nnot %d %s", seed, d, e, toldProject(next), wantE, toldProject(want))
			}
		}
		kind := []string{"get", "tidy", "upgrade", "downgrade", "vendor"}[d.command.Kind-1]
		n.count(fmt.Sprint(kind, " ", wantE), true)
		n.count(kind+" that changes", wantE == api.OK && want.Manifest != formOf(t, d.project.Manifest))
		n.count(kind+" with indirect ones", wantE == api.OK && strings.Contains(want.Manifest, "indirect"))
		n.count(kind+" with none", wantE == api.OK && want.Lock == "")
		if wantE == api.OK {
			n.count(fmt.Sprint(kind, " that adds ", min(2, d.added(t, want.Manifest))), true)
		}
	}
	n.enough(t, 100, "get 0", "tidy 0", "upgrade 0", "downgrade 0", "vendor 0")
	n.enough(t, 100, "get that changes", "tidy that changes", "upgrade that changes", "downgrade that changes")
	n.enough(t, 50, "get with indirect ones", "upgrade with indirect ones", "downgrade with indirect ones", "tidy that adds 0", "tidy that adds 1")
	n.enough(t, 20, "tidy with indirect ones", "tidy that adds 2")
	for _, e := range []api.Errno{api.ErrNone, api.ErrThere, api.ErrMissing, api.ErrExcluded, api.ErrMismatch, api.ErrReply, api.ErrVersion, api.ErrSyntax, api.ErrPath, api.ErrMajor, api.ErrNet, 41, 42, 43} {
		came := 0
		for what, count := range n {
			if strings.HasSuffix(what, fmt.Sprint(" ", int(e))) {
				came += count
			}
		}
		n[fmt.Sprint("error ", int(e))] = came
		n.enough(t, 5, fmt.Sprint("error ", int(e)))
	}
	if testing.Verbose() {
		for _, what := range slices.Sorted(maps.Keys(n)) {
			t.Log(what, n[what])
		}
	}
}

// added is how many paths a new manifest requires that the list had not.
func (d drawn) added(t *testing.T, manifest string) int {
	t.Helper()
	list, _ := d.model.list(d.model.work.file.Require)
	f, _, e := modfile.Parse(manifest)
	is(t, "Parse of the new manifest", e, api.OK)
	count := 0
	for _, x := range f.Require {
		if _, there := d.model.at(list, x.Path); !there {
			count++
		}
	}
	return count
}

// formOf is a manifest in its one form.
func formOf(t *testing.T, text string) string {
	t.Helper()
	f, _, e := modfile.Parse(text)
	if e != api.OK {
		t.Fatalf("Parse of %q: %d", text, e)
	}
	text, e = modfile.Format(f)
	if e != api.OK {
		t.Fatalf("Format of %v: %d", f, e)
	}
	return text
}

// The other calls, by both readings.
func TestP16_2_Drawn(t *testing.T) {
	t.Parallel()
	n := tally{}
	for seed := range draws {
		d := draw(t, rand.New(rand.NewSource(int64(seed))), seed%2 == 1)
		m := d.model
		main, req, e := plan.Required(d.project, d.u)
		is(t, "Required, error", e, api.OK)
		is(t, "main", main, m.main())
		wantReq := m.required(m.work.file.Require)
		for _, x := range append(mods("main y.y/none@v1.0.0"), drawRequires(rand.New(rand.NewSource(1)), m.world, nil, "", 20, 0, true)...) {
			l, pruned, e := req(x)
			want, wantPruned, wantE := wantReq(x)
			is(t, "pruned", pruned, wantPruned)
			is(t, "what is required, error", e, wantE)
			is(t, "what is required", told(mod.SortMods(l)), told(mod.SortMods(want)))
			n.count("required", e == api.OK && len(l) > 0)
			n.count("pruned", pruned)
			n.count("no requirements", e != api.OK)
		}
		l, e := plan.List(d.project, d.u, 3)
		want, wantE := m.list(m.work.file.Require)
		if e != wantE || told(l) != told(want) {
			t.Fatalf("seed %d, %s\nanswers %d %s\nnot %d %s", seed, d, e, told(l), wantE, told(want))
		}
		n.count("list", e == api.OK && len(l) > 3)
		n.count("no list", e != api.OK)
	}
	n.enough(t, draws/10, "list", "no list", "required", "pruned", "no requirements")
}

func TestP16_3_Drawn(t *testing.T) {
	t.Parallel()
	n := tally{}
	for seed := range draws {
		d := draw(t, rand.New(rand.NewSource(int64(seed))), seed%2 == 1)
		m := d.model
		l, e := plan.Needed(d.project, d.u, m.tags, 3)
		w, wantE := m.needed(m.work.file.Require)
		if e != wantE || toldNeeded(l) != toldNeeded(w.vendored) {
			t.Fatalf("seed %d, %s\nanswers %d %s\nnot %d %s", seed, d, e, toldNeeded(l), wantE, toldNeeded(w.vendored))
		}
		n.count("needed", e == api.OK)
		n.count("needed of several", len(l) > 1)
		n.count(fmt.Sprint(e), true)
		if e == api.OK {
			d.vendored(t, l, n)
		}
	}
	n.enough(t, draws/20, "needed", "needed of several", fmt.Sprint(api.ErrMissing))
	n.enough(t, 20, fmt.Sprint(api.ErrSyntax), fmt.Sprint(api.ErrPath), fmt.Sprint(api.ErrReply), "vendored, error")
}

// vendored fails the test unless Vendor answers what the second reading does.
func (d drawn) vendored(t *testing.T, need []sumfile.Vendored, n tally) {
	t.Helper()
	files, e := plan.Vendor(d.project, need, d.u, d.model.tags)
	want, wantE := d.model.vendor(need)
	if e != wantE || toldFiles(files) != toldFiles(want) {
		t.Fatalf("%s\nanswers %d %s\nnot %d %s", d, e, toldFiles(files), wantE, toldFiles(want))
	}
	l, _ := d.model.list(d.model.work.file.Require)
	if d.model.work.bad != "" {
		return
	}
	text, e := plan.Lock(d.project, l, d.u, 5)
	wantText, wantE := d.model.lock(l)
	if e != wantE || text != wantText {
		t.Fatalf("%s\nlocks %d %s\nnot %d %s", d, e, text, wantE, wantText)
	}
	n.count("vendored, error", e != api.OK)
}
