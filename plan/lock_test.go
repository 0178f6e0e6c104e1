package plan_test

import (
	"crypto/sha256"
	"encoding/base64"
	"fmt"
	"slices"
	"strings"
	"sync"
	"testing"
	"time"

	"mews/api"
	"mews/plan"
)

// sumOf is the sum of files, by the library.
func sumOf(files []api.File, prefix string) string {
	sorted := slices.Clone(files)
	slices.SortFunc(sorted, func(a, b api.File) int { return strings.Compare(a.Name, b.Name) })
	var lines strings.Builder
	for _, f := range sorted {
		fmt.Fprintf(&lines, "%x  %s%s\n", sha256.Sum256(f.Data), prefix, f.Name)
	}
	sum := sha256.Sum256([]byte(lines.String()))
	return "h1:" + base64.StdEncoding.EncodeToString(sum[:])
}

// linesOf is the two lines of a module, as text.
func linesOf(m api.Mod, manifest []byte, files []api.File) string {
	name := m.Path + " " + m.Version
	return name + " " + sumOf(files, m.Path+"@"+m.Version+"/") + "\n" + name + "/go.mod " + sumOf([]api.File{{Name: "go.mod", Data: manifest}}, "") + "\n"
}

// otherSum is a sum that nothing here has.
const otherSum = "h1:GB3V+RHYJ0Fh5yVdkr/FJ2NLxxU/jcQfOueJ31XcEPE="

// locks fails the test unless Lock answers a text.
func locks(t *testing.T, p plan.Project, l string, u plan.Universe, want string) {
	t.Helper()
	for _, workers := range crews() {
		text, e := plan.Lock(p, mods(l), u, workers)
		is(t, "Lock of "+l+", error", e, api.OK)
		is(t, "Lock of "+l, text, want)
	}
}

// locksNot fails the test unless Lock answers an error, and nothing beside.
func locksNot(t *testing.T, p plan.Project, l string, u plan.Universe, want api.Errno) {
	t.Helper()
	for _, workers := range crews() {
		text, e := plan.Lock(p, mods(l), u, workers)
		is(t, "Lock of "+l+", error", e, want)
		is(t, "Lock of "+l+", beside an error", text, "")
	}
}

func TestP16_4_Sums(t *testing.T) {
	l := sold("b0: / . q; b1: d0 / .>d; d0:; z0: d0 / z y; b@v1.0.0-rc:")
	l[0].Files = append(l[0].Files, file("go.mod", "another one"), file("A.txt", "\x00\xff"), file("a.txt2", ""))
	u := stillOf(t, l)
	lines := map[string]string{}
	for _, one := range l {
		lines[short(one.Mod)] = linesOf(one.Mod, one.Manifest, one.Files)
	}
	locks(t, project(""), "main", u, "")
	locks(t, project(""), "", u, "")
	locks(t, project(""), "main b0", u, lines["b0"])
	locks(t, project(""), "main b1 d0", u, lines["b1"]+lines["d0"])
	// In order, however the list stands.
	locks(t, project(""), "d0 b1 main b0", u, lines["b0"]+lines["b1"]+lines["d0"])
	locks(t, project(""), "b0 b@v1.0.0-rc", u, lines["b@v1.0.0-rc"]+lines["b0"])
	// What stands in a module's place has the line, by its own name.
	locks(t, project("d=z0"), "main b0 d0", u, lines["b0"]+lines["z0"])
	locks(t, project("d0=z0 d=b0"), "main b0 d0", u, lines["b0"]+lines["z0"])
	locks(t, project("b=d0"), "main b0", u, lines["d0"])
	// Of two in whose places the same one stands there is one.
	locks(t, project("d=z0 b0=z0"), "main b0 b1 d0", u, lines["b1"]+lines["z0"])
	locks(t, project("b=d0"), "main b0 b1 d0", u, lines["d0"])
	// The manifest's text may be whatever it is.
	v := stillOf(t, []plan.Sold{{Mod: word("b0"), Manifest: []byte("no manifest\xff")}})
	locks(t, project(""), "main b0", v, linesOf(word("b0"), []byte("no manifest\xff"), nil))
}

func TestP16_4_WasLocked(t *testing.T) {
	l := sold("b0: / .; d0: / .; d1: / .; z0: / .")
	u := stillOf(t, l)
	lines := map[string]string{}
	for _, one := range l {
		lines[short(one.Mod)] = linesOf(one.Mod, one.Manifest, one.Files)
	}
	with := func(manifest, lock string) plan.Project {
		p := project(manifest)
		p.Lock = lock
		return p
	}
	b0, d0 := lines["b0"], lines["d0"]
	tree, manifest, _ := strings.Cut(b0, "\n")
	for _, lock := range []string{
		b0, d0, b0 + d0, d0 + b0, tree + "\n", manifest, manifest + tree + "\n",
		// Lines that are not among them go, whatever they say.
		lines["d1"], "d.d v1.0.0 " + otherSum + "\n", "a.x/d v1.1.0 " + otherSum + "\n" + b0, "a.x/b v1.0.1/go.mod " + otherSum + "\n",
	} {
		locks(t, with("", lock), "main b0", u, b0)
		locks(t, with("", lock), "main b0 d0", u, b0+d0)
		locks(t, with("", lock), "main", u, "")
	}
	for _, lock := range []string{"a.x/b v1.0.0 " + otherSum + "\n", "a.x/b v1.0.0/go.mod " + otherSum + "\n", d0 + "a.x/b v1.0.0 " + otherSum + "\n" + manifest} {
		locksNot(t, with("", lock), "main b0", u, api.ErrMismatch)
		locksNot(t, with("", lock), "main d1 b0", u, api.ErrMismatch)
		locks(t, with("b=z0", lock), "main b0", u, lines["z0"])
		if !strings.Contains(lock, d0) {
			locks(t, with("", lock), "main d0", u, d0)
		}
		locksNot(t, with("d=b0", lock), "main d0", u, api.ErrMismatch)
		// Commands tell it, too.
		for _, c := range []string{"get b", "get d v1.1.0", "upgrade", "downgrade b v1.0.0", "vendor"} {
			makesNot(t, with("b0", lock), c, u, api.ErrMismatch)
		}
		makes(t, with("b0", lock), "get b none", u, "", "")
		makes(t, with("b0", lock), "tidy", u, "", "")
	}
}

func TestP16_4_Errors(t *testing.T) {
	u := still(t, "b0: / .; c0: / .; d0: / .")
	for _, workers := range badCrews() {
		for _, p := range []plan.Project{project("b0"), {Manifest: "bad", Lock: "bad"}} {
			text, e := plan.Lock(p, mods("main b9"), nil, workers)
			is(t, fmt.Sprint(workers, " workers, error"), e, api.ErrRange)
			is(t, fmt.Sprint(workers, " workers, beside"), text, "")
		}
	}
	locksNot(t, plan.Project{Lock: "bad"}, "main b9", u, api.ErrNone)
	locksNot(t, plan.Project{Manifest: "module ab", Lock: "bad"}, "main b9", u, api.ErrPath)
	p := project("b0")
	for lock, want := range map[string]api.Errno{"bad": api.ErrSyntax, "a.b v1.0.0 h1:x\n": api.ErrSum, "ab v1.0.0 " + otherSum + "\n": api.ErrPath,
		strings.Repeat("a.b v1.0.0 "+otherSum+"\n", 2): api.ErrTwice, strings.Repeat("\n", api.MaxText+1): api.ErrLong} {
		p.Lock = lock
		locksNot(t, p, "main b9", faults(u, "M b9 25"), want)
	}
	p.Lock = ""
	locksNot(t, p, "main b9", u, api.ErrNone)
	// Of one module the manifest's comes ahead of the files', that of their names.
	locksNot(t, p, "main b0", faults(u, "M b0 25; T b0 26"), 25)
	locksNot(t, p, "main b0", faults(u, "T b0 26"), 26)
	bad := sold("b0: / .; c0: / .; d0: / .")
	bad[0].Files = append(bad[0].Files, file("a//b", ""))
	bad[1].Files = append(bad[1].Files, file("X.GO", ""))
	bad[2].Files = append(bad[2].Files, file("x.go", ""))
	v := stillOf(t, bad)
	locksNot(t, p, "main b0", v, api.ErrName)
	locksNot(t, p, "main c0", v, api.ErrTwice)
	locksNot(t, p, "main d0", v, api.ErrTwice)
	locksNot(t, p, "main b0", faults(v, "T b0 26"), 26)
	locksNot(t, p, "main b0", faults(v, "M b0 26"), 26)
	// Of two modules that of the first one in the list.
	for text, want := range map[string]api.Errno{"M b0 25; M c0 26": 25, "T b0 25; M c0 26": 25, "M c0 26; T d0 27": 26, "T c0 26; M d0 27": 26, "T d0 27": 27} {
		locksNot(t, p, "main b0 c0 d0", faults(u, text), want)
	}
	locksNot(t, p, "main d0 c0 b0", faults(u, "M b0 25; T c0 26; M d0 27"), 27)
	locksNot(t, p, "main c0 b0", faults(v, "M b0 25"), api.ErrTwice)
	locksNot(t, p, "main b0 c0", faults(v, "M c0 25"), api.ErrName)
	locksNot(t, project("b=d0"), "main b0 c0", faults(u, "M b0 25; M c0 26; M d0 27"), 27)
	// The errors of all come ahead of what was locked otherwise.
	p.Lock = "a.x/b v1.0.0 " + otherSum + "\n"
	locksNot(t, p, "main b0 c0", u, api.ErrMismatch)
	locksNot(t, p, "main c0 b0", faults(u, "T c0 25"), 25)
	locksNot(t, p, "main b0", faults(u, "T b0 25"), 25)
}

// The form's own errors come last.
func TestP16_4_FormErrors(t *testing.T) {
	u := yes{}
	locksNot(t, project(""), "main A.x@v1.0.0", u, api.ErrPath)
	locksNot(t, project(""), "main b@v2.0.0", u, api.ErrMajor)
	locksNot(t, project(""), "main b@v1", u, api.ErrVersion)
	p := project("")
	p.Lock = "a.x/b v1.0.0 " + otherSum + "\n"
	locksNot(t, p, "main b@v1", u, api.ErrVersion)
	locksNot(t, p, "main b@v1 b0", u, api.ErrMismatch)
	// So many lines as a text may have, and then more.
	long := func(count int) []api.Mod {
		var l []api.Mod
		for i := range count {
			l = append(l, api.Mod{Path: fmt.Sprintf("a.x/%s/%03d", strings.Repeat("b", 88), i), Version: "v1.0.0"})
		}
		return l
	}
	fits := api.MaxText / (2*(len(long(1)[0].Path)+len(" v1.0.0  ")-1+len(otherSum)) + len("/go.mod") + 2)
	for count := fits - 2; count < fits+3; count++ {
		text, e := plan.Lock(project(""), long(count), u, 7)
		if e == api.OK {
			is(t, fmt.Sprint(count, " modules"), strings.Count(text, "\n"), 2*count)
			is(t, fmt.Sprint(count, " modules, length"), len(text) <= api.MaxText, true)
		} else {
			is(t, fmt.Sprint(count, " modules, error"), e, api.ErrLong)
			is(t, fmt.Sprint(count, " modules, beside"), text, "")
		}
	}
	_, least := plan.Lock(project(""), long(fits-2), u, 7)
	_, most := plan.Lock(project(""), long(fits+2), u, 7)
	is(t, "few modules", least, api.OK)
	is(t, "too many modules", most, api.ErrLong)
}

// yes is a universe that has everything, and nothing in it.
type yes struct{}

func (yes) Versions(string) ([]string, api.Errno)  { return nil, api.OK }
func (yes) Manifest(m api.Mod) ([]byte, api.Errno) { return []byte("module " + m.Path + "\n"), api.OK }
func (yes) Tree(api.Mod) ([]api.File, api.Errno)   { return nil, api.OK }

// gate is a universe that answers nobody for a manifest, or for files, until so
// many ask.
type gate struct {
	plan.Universe
	trees      bool // for files
	lock       sync.Mutex
	came, want int
	open       chan struct{}
	late       bool
}

func (g *gate) Manifest(m api.Mod) ([]byte, api.Errno) {
	if !g.trees {
		g.wait()
	}
	return g.Universe.Manifest(m)
}

func (g *gate) Tree(m api.Mod) ([]api.File, api.Errno) {
	if g.trees {
		g.wait()
	}
	return g.Universe.Tree(m)
}

func (g *gate) wait() {
	g.lock.Lock()
	if g.came++; g.came == g.want {
		close(g.open)
	}
	g.lock.Unlock()
	select {
	case <-g.open:
	case <-time.After(patience):
		g.lock.Lock()
		g.late = true
		g.lock.Unlock()
	}
}

func TestP16_4_Workers(t *testing.T) {
	var text string
	for i := range 2 * api.MaxWorkers {
		text += fmt.Sprintf("b%d: / .;", i)
	}
	u := still(t, text)
	l := several("b", 0, 2*api.MaxWorkers)
	for _, workers := range []int{1, 2, 5, api.MaxWorkers} {
		g := &gate{Universe: u, want: workers, open: make(chan struct{})}
		w := &watched{Universe: g}
		_, e := plan.Lock(project(""), mods(l), w, workers)
		is(t, "Lock, error", e, api.OK)
		is(t, fmt.Sprint(workers, " workers, fewer at once"), g.late, false)
		is(t, fmt.Sprint(workers, " workers, at once"), w.peak, workers)
		is(t, fmt.Sprint(workers, " workers, asked"), len(w.asked), 4*api.MaxWorkers)
		is(t, fmt.Sprint(workers, " workers, still inside"), w.inside, 0)
	}
	// All are asked for both, whatever comes of another one.
	w := &watched{Universe: faults(u, "M b0 25; T b3 26")}
	locksNot(t, project(""), l, w, 25)
	is(t, "asked", strings.Count(w.all(), ";"), 4*api.MaxWorkers-1)
	// Only what stands in a module's place is asked.
	w = &watched{Universe: u}
	_, e := plan.Lock(project("b3=b4 d=b5"), mods("main b3 d0"), w, 3)
	is(t, "error", e, api.OK)
	is(t, "asked, replaced", w.all(), "M b4; M b5; T b4; T b5")
	// Behind an error of what is handed in nothing is asked.
	w = &watched{Universe: u}
	plan.Lock(plan.Project{Manifest: "bad"}, mods("b3"), w, 3)
	plan.Lock(plan.Project{Manifest: project("").Manifest, Lock: "bad"}, mods("b3"), w, 3)
	plan.Lock(project(""), mods("b3"), w, 0)
	is(t, "asked for nothing", w.all(), "")
}
