package plan_test

import (
	"bytes"
	"fmt"
	"math/rand"
	"runtime"
	"slices"
	"strings"
	"testing"
	"time"

	"mews/api"
	"mews/plan"
	"mews/sumfile"
)

// room is how much spare room lies behind lists.
const room = 7

// What lies behind lists, and what is written into them.
func markFile() api.File  { return file("mark/mark.go", "bad") }
func markMod() api.Mod    { return api.Mod{Path: "mark.mark", Version: "v1.99.0"} }
func markSold() plan.Sold { return plan.Sold{Mod: markMod()} }

// roomy is the list with spare room behind it, filled with a mark.
func roomy[T any](list []T, with T) []T {
	l := slices.Clone(list)
	for range room {
		l = append(l, with)
	}
	return l[:len(list)]
}

// whole is the list with what lies behind it.
func whole[T any](list []T) []T { return list[:cap(list)] }

// spoil writes into all the memory of a list.
func spoil[T any](list []T, with T) {
	for i := range whole(list) {
		whole(list)[i] = with
	}
	_ = append(list, with, with)
}

// roomyFiles is files with spare room behind them, and behind their bytes.
func roomyFiles(l []api.File) []api.File {
	l = roomy(l, markFile())
	for i := range l {
		l[i].Data = roomy(l[i].Data, 'm')
	}
	return l
}

// wholeFiles is files in full, with what lies behind them and behind their bytes.
func wholeFiles(l []api.File) string {
	var s strings.Builder
	for _, f := range whole(l) {
		fmt.Fprintf(&s, "%q %q\n", f.Name, whole(f.Data))
	}
	return s.String()
}

func spoilFiles(l []api.File) {
	for i := range l {
		spoil(l[i].Data, 'm')
	}
	spoil(l, markFile())
}

// keeper is a universe that hands out lists of its own, which it never copies.
type keeper struct {
	versions  map[string][]string
	manifests map[api.Mod][]byte
	trees     map[api.Mod][]api.File
	faults    faulty
}

func newKeeper(t *testing.T, d drawn) keeper {
	t.Helper()
	k := keeper{map[string][]string{}, map[api.Mod][]byte{}, map[api.Mod][]api.File{}, d.model.faults}
	u := stillOf(t, d.model.world.sold())
	for _, x := range d.model.world {
		l, _ := u.Versions(x.mod.Path)
		k.versions[x.mod.Path] = roomy(l, "v1.99.0")
		text, _ := u.Manifest(x.mod)
		k.manifests[x.mod] = roomy(text, 'm')
		files, _ := u.Tree(x.mod)
		k.trees[x.mod] = roomyFiles(files)
	}
	return k
}

func (k keeper) Versions(path string) ([]string, api.Errno) {
	l, there := k.versions[path]
	return l, k.errno(k.faults.versions[path], there)
}

func (k keeper) Manifest(m api.Mod) ([]byte, api.Errno) {
	text, there := k.manifests[m]
	return text, k.errno(k.faults.manifests[m], there)
}

func (k keeper) Tree(m api.Mod) ([]api.File, api.Errno) {
	l, there := k.trees[m]
	return l, k.errno(k.faults.tree[m], there)
}

func (k keeper) errno(fault api.Errno, there bool) api.Errno {
	if fault == api.OK && !there {
		return api.ErrNone
	}
	return fault
}

// all is everything that a keeper has, spare room too.
func (k keeper) all() string {
	var s strings.Builder
	fmt.Fprintln(&s, len(k.versions), len(k.manifests), len(k.trees))
	for _, path := range drawnPaths() {
		fmt.Fprintln(&s, path, whole(k.versions[path]))
		for _, v := range drawnVersions() {
			m := api.Mod{Path: path, Version: v}
			fmt.Fprintf(&s, "%v %q %s\n", m, whole(k.manifests[m]), wholeFiles(k.trees[m]))
		}
	}
	return s.String()
}

func (k keeper) spoil() {
	for _, l := range k.versions {
		spoil(l, "v1.99.0")
	}
	for _, text := range k.manifests {
		spoil(text, 'm')
	}
	for _, l := range k.trees {
		spoilFiles(l)
	}
}

// answer is what one call answers: what it says, and how its memory is spoilt.
type answer struct {
	told  string
	spoil func()
	whole func() string
}

// call is one that is handed a project, and what else there is.
type call struct {
	name string
	do   func(p plan.Project, given given, u plan.Universe) answer
}

// given is what is handed in besides.
type given struct {
	tags []string
	need []sumfile.Vendored
	list []api.Mod
	wish plan.Command
}

func giving(d drawn) given {
	g := given{tags: roomy(d.model.tags, "linux"), wish: d.command}
	l, _ := d.model.list(d.model.work.file.Require)
	g.list = roomy(l, markMod())
	w, _ := d.model.needed(d.model.work.file.Require)
	g.need = roomy(w.vendored, sumfile.Vendored{Mod: markMod()})
	for i := range g.need {
		g.need[i].Packages = roomy(g.need[i].Packages, "mark.mark")
	}
	return g
}

func (g given) all() string {
	s := fmt.Sprint(whole(g.tags), whole(g.list))
	for _, v := range whole(g.need) {
		s += fmt.Sprint(v.Mod, v.Explicit, whole(v.Packages))
	}
	return s
}

func (g given) spoil() {
	spoil(g.tags, "fast")
	spoil(g.list, markMod())
	for _, v := range g.need {
		spoil(v.Packages, "mark.mark")
	}
	spoil(g.need, sumfile.Vendored{Mod: markMod()})
}

// handed is the project with spare room behind each of its lists.
func handed(p plan.Project) plan.Project {
	p.Sources, p.Vendor = roomyFiles(p.Sources), roomyFiles(p.Vendor)
	return p
}

func listAnswer(l []api.Mod, e api.Errno) answer {
	return answer{fmt.Sprint(told(l), e), func() { spoil(l, markMod()) }, func() string { return told(whole(l)) }}
}

func needAnswer(l []sumfile.Vendored, e api.Errno) answer {
	return answer{fmt.Sprint(toldNeeded(l), e), func() {
		for _, v := range l {
			spoil(v.Packages, "mark.mark")
		}
		spoil(l, sumfile.Vendored{Mod: markMod()})
	}, func() string {
		s := fmt.Sprint(whole(l))
		for _, v := range l {
			s += fmt.Sprint(whole(v.Packages))
		}
		return s
	}}
}

func filesAnswer(l []api.File, e api.Errno) answer {
	return answer{toldFiles(l) + fmt.Sprint(e), func() { spoilFiles(l) }, func() string { return wholeFiles(l) }}
}

func projectAnswer(p plan.Project, e api.Errno) answer {
	return answer{toldProject(p) + fmt.Sprint(e), func() {
		spoilFiles(p.Sources)
		spoilFiles(p.Vendor)
	}, func() string { return p.Manifest + p.Lock + wholeFiles(p.Sources) + wholeFiles(p.Vendor) }}
}

// calls are the calls that ask a universe.
func calls(workers int) []call {
	l := []call{
		{"List", func(p plan.Project, _ given, u plan.Universe) answer { return listAnswer(plan.List(p, u, workers)) }},
		{"Required", func(p plan.Project, g given, u plan.Universe) answer {
			_, req, _ := plan.Required(p, u)
			m := api.Mod{Path: mainPath}
			if len(g.list) > 1 {
				m = g.list[1]
			}
			l, _, e := req(m)
			return listAnswer(l, e)
		}},
		{"Needed", func(p plan.Project, g given, u plan.Universe) answer {
			return needAnswer(plan.Needed(p, u, g.tags, workers))
		}},
		{"Lock", func(p plan.Project, g given, u plan.Universe) answer {
			text, e := plan.Lock(p, g.list, u, workers)
			return answer{fmt.Sprint(text, e), func() {}, func() string { return text }}
		}},
		{"Vendor", func(p plan.Project, g given, u plan.Universe) answer {
			return filesAnswer(plan.Vendor(p, g.need, u, g.tags))
		}},
	}
	for kind := range plan.CVendor {
		l = append(l, call{fmt.Sprint("Step of ", kind+1), func(p plan.Project, g given, u plan.Universe) answer {
			return projectAnswer(plan.Step(p, plan.Command{Kind: kind + 1, Path: g.wish.Path, Version: g.wish.Version}, u, g.tags, workers))
		}})
	}
	return l
}

// eachCall does something with each call over drawn worlds.
func eachCall(t *testing.T, count, workers int, do func(what string, d drawn, c call)) {
	t.Helper()
	for seed := range count {
		d := draw(t, rand.New(rand.NewSource(int64(seed))), seed%3 == 2)
		for _, c := range calls(workers) {
			do(fmt.Sprint(c.name, ", seed ", seed), d, c)
		}
	}
}

func TestP16_7_WhatIsHandedIn(t *testing.T) {
	t.Parallel()
	eachCall(t, 150, 3, func(what string, d drawn, c call) {
		want := c.do(d.project, giving(d), d.u).told
		p, g, k := handed(d.project), giving(d), newKeeper(t, d)
		beforeP, beforeG, beforeK := projectAnswer(p, 0).whole(), g.all(), k.all()
		unchanged := func(when string) {
			is(t, what+", the project, "+when, projectAnswer(p, 0).whole(), beforeP)
			is(t, what+", what is given, "+when, g.all(), beforeG)
			is(t, what+", the universe, "+when, k.all(), beforeK)
		}
		a := c.do(p, g, k)
		is(t, what, a.told, want)
		unchanged("behind the call")
		a.spoil()
		unchanged("the answer spoilt")
		// What becomes of it later on changes no answer.
		a = c.do(p, g, k)
		told := a.whole()
		g.spoil()
		k.spoil()
		spoilFiles(p.Sources)
		spoilFiles(p.Vendor)
		is(t, what+", all spoilt", a.whole(), told)
		// Nothing of it is kept for a later call.
		is(t, what+", asked again", c.do(d.project, giving(d), d.u).told, want)
	})
}

// again is a universe that uses one list for all its answers.
type again struct {
	plan.Universe
	versions []string
	text     []byte
	files    []api.File
}

func newAgain(u plan.Universe) *again {
	return &again{u, make([]string, 0, 100), make([]byte, 0, 1000), make([]api.File, 0, 100)}
}

func (a *again) Versions(path string) ([]string, api.Errno) {
	l, e := a.Universe.Versions(path)
	spoil(a.versions, "v1.99.0")
	a.versions = append(a.versions[:0], l...)
	return a.versions, e
}

func (a *again) Manifest(m api.Mod) ([]byte, api.Errno) {
	text, e := a.Universe.Manifest(m)
	spoil(a.text, 'm')
	a.text = append(a.text[:0], text...)
	return a.text, e
}

func (a *again) Tree(m api.Mod) ([]api.File, api.Errno) {
	l, e := a.Universe.Tree(m)
	spoilFiles(a.files)
	a.files = append(a.files[:0], l...)
	return a.files, e
}

func TestP16_7_OneListForAll(t *testing.T) {
	t.Parallel()
	eachCall(t, 150, 1, func(what string, d drawn, c call) {
		want := c.do(d.project, giving(d), d.u).told
		is(t, what+", one list", c.do(d.project, giving(d), newAgain(d.u)).told, want)
	})
}

func TestP16_7_NewMemory(t *testing.T) {
	t.Parallel()
	eachCall(t, 150, 3, func(what string, d drawn, c call) {
		first, second := c.do(d.project, giving(d), d.u), c.do(d.project, giving(d), d.u)
		is(t, what, first.told, second.told)
		beside := second.whole()
		first.spoil()
		is(t, what+", the other one spoilt", second.whole(), beside)
		third := c.do(d.project, giving(d), d.u)
		is(t, what+", asked again", third.told, second.told)
	})
}

// No two lists of one answer share memory, spare room too, though what is handed
// in does.
func TestP16_7_ListsOfOneAnswer(t *testing.T) {
	text := []byte("package p\nimport \"a.x/b\"\nimport \"a.x/b/q\"\nimport \"a.x/d\"\nimport \"a.x/d/q\"\n")
	shared := []api.File{{Name: "a.go", Data: text}, {Name: "b.go", Data: text}, {Name: "c.go", Data: text[:len(text):len(text)]}}
	p := project("b0 d0")
	p.Sources, p.Vendor = shared, shared[:2]
	u := one{[]byte("package p\n")}
	for _, c := range []string{"vendor", "tidy", "get b v1.0.0", "upgrade", "downgrade b v1.0.0"} {
		next := steps(t, p, c, u)
		apart(t, c, append(slices.Clone(next.Sources), next.Vendor...))
		spoil(next.Sources, markFile())
		if c != "vendor" {
			is(t, c+", the other list", names(next.Vendor), names(p.Vendor))
		}
	}
	files, e := plan.Vendor(p, need("b0: b b/q; d0: d d/q"), u, nil)
	is(t, "Vendor, error", e, api.OK)
	is(t, "Vendor", names(files), "a.x/b/q/x.go a.x/b/q/y.go a.x/b/x.go a.x/b/y.go a.x/d/q/x.go a.x/d/q/y.go a.x/d/x.go a.x/d/y.go modules.txt")
	apart(t, "Vendor", files)
	l, e := plan.Needed(p, u, nil, 2)
	is(t, "Needed, error", e, api.OK)
	is(t, "Needed", toldNeeded(l), "b0*: a.x/b a.x/b/q; d0*: a.x/d a.x/d/q")
	before := fmt.Sprint(whole(l[1].Packages))
	spoil(l[0].Packages, "mark.mark")
	is(t, "Needed, the other list", fmt.Sprint(whole(l[1].Packages)), before)
}

// one is a universe in which each module has the same few files, which share
// their memory.
type one struct{ data []byte }

func (one) Versions(string) ([]string, api.Errno) { return []string{"v1.0.0"}, api.OK }

func (o one) Manifest(m api.Mod) ([]byte, api.Errno) { return []byte("module " + m.Path), api.OK }

func (o one) Tree(api.Mod) ([]api.File, api.Errno) {
	return []api.File{{Name: "x.go", Data: o.data}, {Name: "y.go", Data: o.data}, {Name: "q/x.go", Data: o.data}, {Name: "q/y.go", Data: o.data}}, api.OK
}

// apart fails the test if files share memory.
func apart(t *testing.T, what string, l []api.File) {
	t.Helper()
	for i := range l {
		var before []string
		for j := range l {
			before = append(before, string(whole(l[j].Data)))
		}
		spoil(l[i].Data, 'm')
		for j := range l {
			if i != j {
				is(t, what+", bytes of "+l[j].Name, string(whole(l[j].Data)), before[j])
			}
		}
	}
}

// A still universe keeps nothing of what it is made of, and hands out nothing
// that it keeps.
func TestP16_7_Still(t *testing.T) {
	l := roomy(sold("b0: d0 / . q; b2:; b1: / ."), markSold())
	for i := range l {
		l[i].Manifest, l[i].Files = roomy(l[i].Manifest, 'm'), roomyFiles(l[i].Files)
	}
	all := func() string {
		s := fmt.Sprint(len(l))
		for _, x := range whole(l) {
			s += fmt.Sprintf("%v %q %s", x.Mod, whole(x.Manifest), wholeFiles(x.Files))
		}
		return s
	}
	before := all()
	u := stillOf(t, l)
	is(t, "what is handed in", all(), before)
	says := func() string {
		versions, _ := u.Versions("a.x/b")
		s := strings.Join(versions, " ")
		spoil(versions, "v1.99.0")
		for _, m := range mods("b0 b1 b2") {
			text, _ := u.Manifest(m)
			files, _ := u.Tree(m)
			other, _ := u.Tree(m)
			s += string(text) + toldFiles(files)
			spoilFiles(files)
			spoil(text, 'm')
			s += toldFiles(other)
			apart(t, "Tree", other)
		}
		return s
	}
	first := says()
	is(t, "asked again, all spoilt", says(), first)
	for _, x := range l {
		spoil(x.Manifest, 'm')
		spoilFiles(x.Files)
	}
	spoil(l, markSold())
	is(t, "asked again, what was handed in spoilt", says(), first)
	// Two answers at once.
	a, _ := u.Versions("a.x/b")
	b, _ := u.Versions("a.x/b")
	beside := fmt.Sprint(whole(b))
	spoil(a, "v1.99.0")
	is(t, "Versions, the other one", fmt.Sprint(whole(b)), beside)
	x, _ := u.Manifest(word("b0"))
	y, _ := u.Manifest(word("b0"))
	besideText := bytes.Clone(whole(y))
	spoil(x, 'm')
	is(t, "Manifest, the other one", string(whole(y)), string(besideText))
	// A refused list is no less somebody else's.
	m := roomy(append(sold("b0: / ."), plan.Sold{}), markSold())
	was := fmt.Sprint(whole(m))
	refused(t, "a bad one", m, api.ErrPath)
	is(t, "what is refused", fmt.Sprint(whole(m)), was)
}

// nil and the empty list are the same.
func TestP16_7_Nothing(t *testing.T) {
	u := still(t, "b0: / .; b1: / .")
	empty := plan.Project{Manifest: "module m.n/p\nrequire a.x/b v1.0.0\n", Sources: []api.File{}, Vendor: []api.File{}}
	none := plan.Project{Manifest: empty.Manifest}
	for _, c := range allCommands() {
		a, e := plan.Step(empty, command(c), u, []string{}, 2)
		is(t, c+", error", e, api.OK)
		b, e := plan.Step(none, command(c), u, nil, 2)
		is(t, c+", error", e, api.OK)
		is(t, c, toldProject(a), toldProject(b))
	}
	for _, p := range []plan.Project{empty, none} {
		for _, l := range [][]api.Mod{nil, {}} {
			text, e := plan.Lock(p, l, u, 2)
			is(t, "Lock of nothing, error", e, api.OK)
			is(t, "Lock of nothing", text, "")
		}
		for _, n := range [][]sumfile.Vendored{nil, {}} {
			files, e := plan.Vendor(p, n, u, nil)
			is(t, "Vendor of nothing, error", e, api.OK)
			is(t, "Vendor of nothing", toldFiles(files), toldFiles([]api.File{listing("")}))
		}
	}
	v := stillOf(t, []plan.Sold{{Mod: word("b0"), Manifest: []byte{}, Files: []api.File{{Name: "x", Data: []byte{}}, {Name: "y"}}}})
	text, e := v.Manifest(word("b0"))
	is(t, "Manifest of nothing, error", e, api.OK)
	is(t, "Manifest of nothing", len(text), 0)
	files, e := v.Tree(word("b0"))
	is(t, "Tree of nothing, error", e, api.OK)
	is(t, "Tree of nothing", toldFiles(files), toldFiles([]api.File{{Name: "x"}, {Name: "y"}}))
}

// What is asked is answered, and nothing is asked any more, when a call answers.
func TestP0_5_NothingGoesOn(t *testing.T) {
	var text string
	for i := range 40 {
		text += fmt.Sprintf("b%d: c%d / .; c%d: / .;", i, i, i)
	}
	u := still(t, text)
	l := several("b", 0, 40)
	for _, bad := range []string{"", "M b0 41", "T b7 42", "M c3 43", "T b0 44; M b39 45", "V b 46"} {
		for _, workers := range crews() {
			for _, c := range calls(workers) {
				w := &watched{Universe: faults(u, bad), slow: time.Millisecond / 10}
				p := project("b0 c0 / .>b,c")
				c.do(p, given{list: mods(l), wish: plan.Command{Path: "a.x/b", Version: "v1.0.0"}, need: need("b0: b")}, w)
				w.lock.Lock()
				is(t, c.name+", still asked", w.inside, 0)
				total := len(w.asked)
				w.lock.Unlock()
				time.Sleep(time.Millisecond / 2)
				w.lock.Lock()
				is(t, c.name+", asked later on", len(w.asked), total)
				w.lock.Unlock()
			}
		}
	}
}

// No goroutine is left, of whatever call.
func TestP0_5_NoGoroutineLeft(t *testing.T) {
	before := runtime.NumGoroutine()
	for _, workers := range append(crews(), 0) {
		eachCall(t, 40, workers, func(_ string, d drawn, c call) { c.do(d.project, giving(d), d.u) })
	}
	// One that has said that it is done may take a moment to be gone.
	for end := time.Now().Add(patience); runtime.NumGoroutine() > before && time.Now().Before(end); {
		time.Sleep(time.Millisecond)
	}
	is(t, "goroutines left", max(0, runtime.NumGoroutine()-before), 0)
}

// A universe that panics is an error, wherever it is asked, in whichever
// goroutine.
type panics struct {
	plan.Universe
	at string
}

func (p panics) Versions(path string) ([]string, api.Errno) {
	if p.at == "V" {
		panic(p.at)
	}
	return p.Universe.Versions(path)
}

func (p panics) Manifest(m api.Mod) ([]byte, api.Errno) {
	if p.at == "M" {
		panic(p.at)
	}
	return p.Universe.Manifest(m)
}

func (p panics) Tree(m api.Mod) ([]api.File, api.Errno) {
	if p.at == "T" {
		panic(p.at)
	}
	return p.Universe.Tree(m)
}

func TestP0_1_Panics(t *testing.T) {
	u := still(t, "b0: d0 / .; b1: / .; d0: / .; d1: / .")
	p := project("b0 / .>b")
	for _, c := range []string{"get b", "upgrade"} {
		makesNot(t, p, c, panics{u, "V"}, api.ErrRange)
	}
	for _, c := range allCommands() {
		if c != "get b none" {
			makesNot(t, p, c, panics{u, "T"}, api.ErrRange)
		}
		makesNot(t, p, c, panics{u, "M"}, api.ErrRange)
		makesNot(t, p, c, nil, api.ErrRange)
	}
	makesNot(t, project("/ .>b"), "tidy", panics{u, "V"}, api.ErrMissing)
	makesNot(t, project("/ .>b"), "tidy", panics{u, "T"}, api.ErrMissing)
	makes(t, project("d1 b0"), "downgrade d v1.0.0", panics{u, "V"}, "b0 d0", "b0 d0")
	locksNot(t, p, "main b0", panics{u, "T"}, api.ErrRange)
	vendorsNot(t, p, "b0: b", panics{u, "T"}, api.ErrRange)
	needsNot(t, p, panics{u, "T"}, api.ErrRange)
}
