package plan_test

import (
	"bytes"
	"fmt"
	"math/rand"
	"regexp"
	"slices"
	"strings"
	"sync"
	"testing"
	"time"

	"mews/api"
	"mews/modfile"
	"mews/plan"
	"mews/sumfile"
)

// patience is how long a test waits for what must come, ahead of failing.
const patience = 20 * time.Second

// mainPath is the path of the module that most tests work on.
const mainPath = "m.n/p"

// crews is the counts of workers that most tests try.
func crews() []int { return []int{1, 3, api.MaxWorkers} }

// badCrews is what workers may not be.
func badCrews() []int {
	return []int{-1 << 63, -api.MaxWorkers, -1, 0, api.MaxWorkers + 1, 1<<63 - 1}
}

// is fails the test unless got is want.
func is[T comparable](t *testing.T, what string, got, want T) {
	t.Helper()
	if got != want {
		t.Errorf("%s: %.900s, not %.900s", what, fmt.Sprint(got), fmt.Sprint(want))
	}
}

// word is a module, of a short text: `main`; `b2` is a.x/b v1.2.0; others stand
// as PATH@VERSION.
func word(s string) api.Mod {
	if s == "main" {
		return api.Mod{Path: mainPath}
	}
	if path, version, there := strings.Cut(s, "@"); there {
		return api.Mod{Path: pathOf(path), Version: version}
	}
	name := strings.TrimRight(s, "0123456789")
	return api.Mod{Path: pathOf(name), Version: "v1." + s[len(name):] + ".0"}
}

// std are the texts of imports that are the library's.
func std() []string { return []string{"fmt", "os", "net/url", "C"} }

// pathOf is a path, of a short text: `b/q` is a.x/b/q; `main/q` is of main; what
// has a dot, or is the library's, stands as it is.
func pathOf(s string) string {
	if behind, ok := strings.CutPrefix(s, "main"); ok {
		return mainPath + behind
	}
	if strings.Contains(s, ".") || slices.Contains(std(), s) {
		return s
	}
	return "a.x/" + s
}

// mods are modules, of short texts.
func mods(s string) []api.Mod {
	var l []api.Mod
	for _, x := range strings.Fields(s) {
		l = append(l, word(x))
	}
	return l
}

// plainWord is what of the short texts is not PATH@VERSION.
var plainWord = regexp.MustCompile(`^a\.x/([a-z/]+) v1\.([0-9]+)\.0$`)

// short is a module's short text.
func short(m api.Mod) string {
	if m == word("main") {
		return "main"
	}
	if found := plainWord.FindStringSubmatch(m.Path + " " + m.Version); found != nil {
		return found[1] + found[2]
	}
	return strings.TrimPrefix(m.Path, "a.x/") + "@" + m.Version
}

// told are modules' short texts.
func told(l []api.Mod) string {
	var words []string
	for _, m := range l {
		words = append(words, short(m))
	}
	return strings.Join(words, " ")
}

// file is a file.
func file(name, text string) api.File { return api.File{Name: name, Data: []byte(text)} }

// source is the text of a source that imports these.
func source(imports ...string) string {
	text := "package p\n"
	for _, path := range imports {
		text += "import \"" + path + "\"\n"
	}
	return text
}

// sources are files, of a text like `.>b,fmt q>d/e r`: directories, and what
// each imports.
func sources(text string) []api.File {
	var l []api.File
	for _, x := range strings.Fields(text) {
		dir, list, _ := strings.Cut(x, ">")
		var imports []string
		for _, path := range strings.FieldsFunc(list, func(r rune) bool { return r == ',' }) {
			imports = append(imports, pathOf(path))
		}
		l = append(l, file(strings.TrimPrefix(dir+"/x.go", "./"), source(imports...)))
	}
	return l
}

// sold are modules, of a text like `b0~: d0 c1 / .>d q>fmt; d0: / .`: what each
// requires, and its directories with what each imports; ~ says that it is
// pruned.
func sold(text string) []plan.Sold {
	var l []plan.Sold
	for _, line := range strings.Split(text, ";") {
		if strings.TrimSpace(line) == "" {
			continue
		}
		name, behind, _ := strings.Cut(strings.TrimSpace(line), ":")
		requires, packages, _ := strings.Cut(behind, "/ ")
		name, pruned := strings.CutSuffix(name, "~")
		m := word(name)
		f := modfile.File{Module: m.Path}
		if pruned {
			f.Go = "1.17"
		}
		l = append(l, plan.Sold{Mod: m, Manifest: []byte(manifestText(f, requires)), Files: sources(packages)})
	}
	return l
}

// manifestText is a manifest's text, with requires as `b0 d1!` (! is indirect),
// excludes as `-b1`, replaces as `b=z0` and `b0=z0`, and ~ where it is pruned.
// It is not in its one form.
func manifestText(f modfile.File, text string) string {
	s := "module " + f.Module + " // its name\n"
	if f.Go != "" {
		s += "go " + f.Go + "\n"
	}
	for _, x := range strings.Fields(text) {
		s += statement(x) + "\n"
	}
	return s
}

func statement(x string) string {
	if x == "~" {
		return "go 1.17"
	}
	if behind, ok := strings.CutPrefix(x, "-"); ok {
		return "exclude " + pair(word(behind))
	}
	if old, other, ok := strings.Cut(x, "="); ok {
		if strings.TrimRight(old, "0123456789") == old && !strings.Contains(old, "@") {
			return "replace " + pathOf(old) + " => " + pair(word(other))
		}
		return "replace " + pair(word(old)) + " => " + pair(word(other))
	}
	name, indirect := strings.CutSuffix(x, "!")
	s := "require " + pair(word(name))
	if indirect {
		s += " // indirect"
	}
	return s
}

func pair(m api.Mod) string { return m.Path + " " + m.Version }

// still is a universe, of a text.
func still(t testing.TB, text string) *plan.Still {
	t.Helper()
	return stillOf(t, sold(text))
}

func stillOf(t testing.TB, l []plan.Sold) *plan.Still {
	t.Helper()
	u, e := plan.NewStill(l)
	if e != api.OK || u == nil {
		t.Fatalf("NewStill: %d", e)
	}
	return u
}

// project is a project, of a text like `b0 d1! -b2 b=z0 ~ / .>b q`.
func project(text string) plan.Project {
	manifest, packages, _ := strings.Cut(text+" ", "/ ")
	return plan.Project{Manifest: manifestText(modfile.File{Module: mainPath}, manifest), Sources: sources(packages)}
}

// requires are a manifest's requires as `b0 d1!`.
func requires(t testing.TB, text string) string {
	t.Helper()
	f, _, e := modfile.Parse(text)
	if e != api.OK {
		t.Errorf("the manifest %q: %d", text, e)
	}
	var words []string
	for _, r := range f.Require {
		w := short(api.Mod{Path: r.Path, Version: r.Version})
		if r.Indirect {
			w += "!"
		}
		words = append(words, w)
	}
	return strings.Join(words, " ")
}

// locked are the modules of a lock that has both lines of each; a line that
// stands alone is told with its kind.
func locked(t testing.TB, text string) string {
	t.Helper()
	lines, _, e := sumfile.Parse(text)
	if e != api.OK {
		t.Errorf("the lock %q: %d", text, e)
	}
	var words []string
	for i := 0; i < len(lines); i++ {
		w := short(lines[i].Mod)
		if i+1 < len(lines) && lines[i+1].Mod == lines[i].Mod {
			i++
		} else {
			w += fmt.Sprint("/", lines[i].Kind)
		}
		words = append(words, w)
	}
	return strings.Join(words, " ")
}

// toldNeeded is what is needed as `b0*: a.x/b a.x/b/q; d0: a.x/d`; * is explicit.
func toldNeeded(l []sumfile.Vendored) string {
	var parts []string
	for _, v := range l {
		s := short(v.Mod)
		if v.Explicit {
			s += "*"
		}
		parts = append(parts, s+": "+strings.Join(v.Packages, " "))
	}
	return strings.Join(parts, "; ")
}

// names are the names of files.
func names(l []api.File) string {
	var words []string
	for _, f := range l {
		words = append(words, f.Name)
	}
	return strings.Join(words, " ")
}

// toldFiles is files in full.
func toldFiles(l []api.File) string {
	var s strings.Builder
	for _, f := range l {
		fmt.Fprintf(&s, "%q %q\n", f.Name, f.Data)
	}
	return s.String()
}

// toldProject is a project in full.
func toldProject(p plan.Project) string {
	return fmt.Sprintf("%q\n%q\nsources\n%svendored\n%s", p.Manifest, p.Lock, toldFiles(p.Sources), toldFiles(p.Vendor))
}

// command is a command, of a text like `get b v1.0.0`, `get b`, `tidy`.
func command(text string) plan.Command {
	words := append(strings.Fields(text), "", "")
	kind := 1 + slices.Index([]string{"get", "tidy", "upgrade", "downgrade", "vendor"}, words[0])
	c := plan.Command{Kind: kind, Version: words[2]}
	if words[1] != "" {
		c.Path = pathOf(words[1])
	}
	return c
}

// steps is what a command makes of a project, with each count of workers.
func steps(t *testing.T, p plan.Project, text string, u plan.Universe) plan.Project {
	t.Helper()
	first, e := plan.Step(p, command(text), u, nil, 1)
	is(t, text+" of "+p.Manifest+", error", e, api.OK)
	for _, workers := range crews() {
		other, e := plan.Step(p, command(text), u, nil, workers)
		is(t, text+" of "+p.Manifest+", error", e, api.OK)
		is(t, text+" of "+p.Manifest, toldProject(other), toldProject(first))
	}
	return first
}

// makes fails the test unless a command makes these requires, and a lock of
// these modules.
func makes(t *testing.T, p plan.Project, text string, u plan.Universe, wantRequires, wantLocked string) plan.Project {
	t.Helper()
	next := steps(t, p, text, u)
	what := text + " of " + p.Manifest
	is(t, what+", requires", requires(t, next.Manifest), wantRequires)
	is(t, what+", lock", locked(t, next.Lock), wantLocked)
	is(t, what+", sources", toldFiles(next.Sources), toldFiles(p.Sources))
	if command(text).Kind != plan.CVendor {
		is(t, what+", the vendored tree", toldFiles(next.Vendor), toldFiles(p.Vendor))
		f, _, _ := modfile.Parse(next.Manifest)
		form, _ := modfile.Format(f)
		is(t, what+", the manifest's form", next.Manifest, form)
	}
	return next
}

// makesNot fails the test unless a command answers an error, and nothing beside.
func makesNot(t *testing.T, p plan.Project, text string, u plan.Universe, want api.Errno) {
	t.Helper()
	for _, workers := range crews() {
		fails(t, p, command(text), u, workers, want)
	}
}

func fails(t *testing.T, p plan.Project, c plan.Command, u plan.Universe, workers int, want api.Errno) {
	t.Helper()
	next, e := plan.Step(p, c, u, nil, workers)
	what := fmt.Sprintf("%v of %.300s, %d workers", c, p.Manifest, workers)
	is(t, what+", error", e, want)
	is(t, what+", beside an error", toldProject(next), toldProject(plan.Project{}))
}

// faulty is a universe with errors; beside an error it says something all the
// same.
type faulty struct {
	plan.Universe
	versions        map[string]api.Errno
	manifests, tree map[api.Mod]api.Errno
}

// faults is a universe with errors, of a text like `V b 25; M b0 3; T d0 4`.
func faults(u plan.Universe, text string) faulty {
	f := faulty{u, map[string]api.Errno{}, map[api.Mod]api.Errno{}, map[api.Mod]api.Errno{}}
	for _, one := range strings.Split(text, ";") {
		var kind, what string
		var e api.Errno
		if n, _ := fmt.Sscan(one, &kind, &what, &e); n < 3 {
			continue
		}
		switch kind {
		case "V":
			f.versions[pathOf(what)] = e
		case "M":
			f.manifests[word(what)] = e
		case "T":
			f.tree[word(what)] = e
		}
	}
	return f
}

func (f faulty) Versions(path string) ([]string, api.Errno) {
	if e := f.versions[path]; e != api.OK {
		return []string{"v1.9.0"}, e
	}
	return f.Universe.Versions(path)
}

func (f faulty) Manifest(m api.Mod) ([]byte, api.Errno) {
	if e := f.manifests[m]; e != api.OK {
		return []byte("module " + m.Path + "\n"), e
	}
	return f.Universe.Manifest(m)
}

func (f faulty) Tree(m api.Mod) ([]api.File, api.Errno) {
	if e := f.tree[m]; e != api.OK {
		return []api.File{file("x.go", source())}, e
	}
	return f.Universe.Tree(m)
}

// watched is a universe that tells what it was asked.
type watched struct {
	plan.Universe
	lock         sync.Mutex
	asked        []string
	inside, peak int // asked right now; at once, at most
	slow         time.Duration
}

func (w *watched) note(what string) func() {
	w.lock.Lock()
	defer w.lock.Unlock()
	w.asked = append(w.asked, what)
	w.inside++
	w.peak = max(w.peak, w.inside)
	return func() {
		time.Sleep(w.slow)
		w.lock.Lock()
		defer w.lock.Unlock()
		w.inside--
	}
}

func (w *watched) Versions(path string) ([]string, api.Errno) {
	defer w.note("V " + path)()
	return w.Universe.Versions(path)
}

func (w *watched) Manifest(m api.Mod) ([]byte, api.Errno) {
	defer w.note("M " + short(m))()
	return w.Universe.Manifest(m)
}

func (w *watched) Tree(m api.Mod) ([]api.File, api.Errno) {
	defer w.note("T " + short(m))()
	return w.Universe.Tree(m)
}

// all is what was asked, each once, rising.
func (w *watched) all() string {
	w.lock.Lock()
	defer w.lock.Unlock()
	l := slices.Clone(w.asked)
	slices.Sort(l)
	return strings.Join(slices.Compact(l), "; ")
}

// some is one of a list.
func some[T any](r *rand.Rand, l ...T) T { return l[r.Intn(len(l))] }

// several are short texts with rising numbers: b0 b1 b2.
func several(name string, from, count int) string {
	var words []string
	for i := range count {
		words = append(words, fmt.Sprint(name, from+i))
	}
	return strings.Join(words, " ")
}

// tally counts what came up, so that a test can tell that it tried enough.
type tally map[string]int

func (n tally) count(what string, came bool) {
	if came {
		n[what]++
	}
}

func (n tally) enough(t *testing.T, least int, what ...string) {
	t.Helper()
	for _, x := range what {
		if n[x] < least {
			t.Errorf("%s came up %d times only", x, n[x])
		}
	}
}

// The helpers of these tests.
func TestShortTexts(t *testing.T) {
	is(t, "b2", word("b2"), api.Mod{Path: "a.x/b", Version: "v1.2.0"})
	is(t, "b/q10", word("b/q10"), api.Mod{Path: "a.x/b/q", Version: "v1.10.0"})
	is(t, "b@v2.0.0", word("b@v2.0.0"), api.Mod{Path: "a.x/b", Version: "v2.0.0"})
	is(t, "told", told(mods("main b2 b/q10 b@v1.0.0-rc c.c@v2.0.0")), "main b2 b/q10 b@v1.0.0-rc c.c@v2.0.0")
	p := project("b0 d1! -b2 b=z0 b1=z.z@v1.0.0 ~ / .>b,fmt,main/q q")
	is(t, "a manifest", p.Manifest, "module m.n/p // its name\nrequire a.x/b v1.0.0\nrequire a.x/d v1.1.0 // indirect\nexclude a.x/b v1.2.0\nreplace a.x/b => a.x/z v1.0.0\nreplace a.x/b v1.1.0 => z.z v1.0.0\ngo 1.17\n")
	is(t, "sources", toldFiles(p.Sources), toldFiles([]api.File{file("x.go", "package p\nimport \"a.x/b\"\nimport \"fmt\"\nimport \"m.n/p/q\"\n"), file("q/x.go", "package p\n")}))
	l := sold("b0~: d0 / .>d; d0: / . e; c0:")
	is(t, "sold, length", len(l), 3)
	is(t, "sold", bytes.HasSuffix(l[0].Manifest, []byte("go 1.17\nrequire a.x/d v1.0.0\n")), true)
	is(t, "sold, files", names(l[1].Files), "x.go e/x.go")
	is(t, "command", command("get b v1.0.0"), plan.Command{Kind: plan.CGet, Path: "a.x/b", Version: "v1.0.0"})
	is(t, "command", command("vendor"), plan.Command{Kind: plan.CVendor})
}
