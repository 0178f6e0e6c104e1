package plan_test

import (
	"fmt"
	"strings"
	"testing"

	"mews/api"
	"mews/plan"
)

// says fails the test unless Required's function says this of a module.
func says(t *testing.T, p plan.Project, u plan.Universe, name, want string, wantPruned bool, wantE api.Errno) {
	t.Helper()
	main, req, e := plan.Required(p, u)
	is(t, "Required of "+p.Manifest+", error", e, api.OK)
	is(t, "Required of "+p.Manifest+", main", main, word("main"))
	l, pruned, e := req(word(name))
	what := "what " + name + " requires, with " + p.Manifest
	is(t, what, told(l), want)
	is(t, what+", pruned", pruned, wantPruned)
	is(t, what+", error", e, wantE)
}

// lists fails the test unless List answers these modules.
func lists(t *testing.T, p plan.Project, u plan.Universe, want string) {
	t.Helper()
	for _, workers := range crews() {
		l, e := plan.List(p, u, workers)
		is(t, "List of "+p.Manifest+", error", e, api.OK)
		is(t, "List of "+p.Manifest, told(l), want)
	}
}

// listsNot fails the test unless List and Needed, and all commands that need a
// list, answer an error, and nothing beside.
func listsNot(t *testing.T, p plan.Project, u plan.Universe, want api.Errno) {
	t.Helper()
	for _, workers := range crews() {
		l, e := plan.List(p, u, workers)
		is(t, "List of "+p.Manifest+", error", e, want)
		is(t, "List of "+p.Manifest+", beside", len(l), 0)
		n, e := plan.Needed(p, u, nil, workers)
		is(t, "Needed of "+p.Manifest+", error", e, want)
		is(t, "Needed of "+p.Manifest+", beside", len(n), 0)
	}
	for _, c := range []string{"tidy", "upgrade", "vendor", "get zz v1.0.0", "get zz none", "downgrade zz v1.0.0"} {
		makesNot(t, p, c, u, want)
	}
}

func TestP16_2_Required(t *testing.T) {
	u := still(t, "b0: d0 c1; b1~: d1; c1:; d0:; z0: e5 b2; z1~: e6")
	says(t, project("b0 c1!"), u, "main", "b0 c1", false, api.OK)
	says(t, project("c1! b0 ~"), u, "main", "b0 c1", true, api.OK)
	says(t, project(""), u, "main", "", false, api.OK)
	says(t, project("b0"), u, "b0", "c1 d0", false, api.OK)
	says(t, project("b0"), u, "b1", "d1", true, api.OK)
	says(t, project("b0 ~"), u, "c1", "", false, api.OK)
	says(t, project("b0"), u, "b2", "", false, api.ErrNone)
	says(t, project("b0"), u, "q.q@v1.0.0", "", false, api.ErrNone)
	// What is excluded is passed over, whoever requires it.
	says(t, project("b0 c1 -b0"), u, "main", "c1", false, api.OK)
	says(t, project("b0 c1 -b0 -c1 -d0"), u, "main", "", false, api.OK)
	says(t, project("b0 c1 -c1"), u, "b0", "d0", false, api.OK)
	says(t, project("b0 -d0 -c1 -b0"), u, "b0", "", false, api.OK)
	says(t, project("b0 -d1"), u, "b0", "c1 d0", false, api.OK)
	// Only main's manifest excludes.
	w := stillOf(t, []plan.Sold{{Mod: word("b0"), Manifest: []byte("module a.x/b\nrequire a.x/d v1.0.0\nexclude a.x/d v1.0.0\nreplace a.x/c => a.x/z v1.0.0\n")}, sold("c0: d5")[0]})
	says(t, project("b0"), w, "b0", "d0", false, api.OK)
	says(t, project("b0"), w, "c0", "d5", false, api.OK)
	// What stands in a module's place says what it requires, and whether it is pruned.
	says(t, project("b0 b=z0"), u, "b0", "b2 e5", false, api.OK)
	says(t, project("b0 b=z1"), u, "b0", "e6", true, api.OK)
	says(t, project("b0 b=z1"), u, "b7", "e6", true, api.OK)
	says(t, project("b0 b0=z1 b=z0"), u, "b0", "e6", true, api.OK)
	says(t, project("b0 b0=z1 b=z0"), u, "b1", "b2 e5", false, api.OK)
	says(t, project("b0 b1=z1"), u, "b0", "c1 d0", false, api.OK)
	says(t, project("b0 b=z0 z=c1"), u, "b0", "b2 e5", false, api.OK)
	says(t, project("b0 b=z0 -e5"), u, "b0", "b2", false, api.OK)
	says(t, project("b0 b=z0 -z0"), u, "b0", "b2 e5", false, api.OK)
	says(t, project("b0 b=z9"), u, "b0", "", false, api.ErrNone)
	says(t, project("b0 b=b1"), u, "b0", "d1", true, api.OK)
	says(t, project("b0 main=b1"), u, "main", "b0", false, api.OK)
}

func TestP16_2_Replies(t *testing.T) {
	u := stillOf(t, []plan.Sold{
		{Mod: word("b0"), Manifest: []byte("module a.x/c\n")}, // another path
		{Mod: word("b1"), Manifest: []byte("module a.x/b\nrequire\n")},
		{Mod: word("b2")},
		{Mod: word("b3"), Manifest: []byte("module a.x/b\n" + strings.Repeat("// long\n", api.MaxText/8))},
		{Mod: word("b4"), Manifest: []byte("module a.x/b\nrequire a.x/b v1.0.0\n")},
		{Mod: word("b5"), Manifest: []byte("module a.x/bb\n")},
		{Mod: word("z0"), Manifest: []byte("module y.y/y\nrequire a.x/d v1.0.0\n")},
		{Mod: word("z1"), Manifest: []byte("module a.x/z\n}\n")},
		sold("d0:")[0],
	})
	for _, name := range strings.Fields("b0 b1 b2 b3 b4 b5 z0 z1") {
		says(t, project(""), u, name, "", false, api.ErrReply)
		listsNot(t, project(name), u, api.ErrReply)
	}
	// In another one's place its path may be any.
	says(t, project("b=z0"), u, "b0", "d0", false, api.OK)
	says(t, project("b0=z0"), u, "b0", "d0", false, api.OK)
	says(t, project("b=b5"), u, "b0", "", false, api.OK)
	// In its own place it may not, even where that is said.
	says(t, project("b=b5"), u, "b5", "", false, api.ErrReply)
	says(t, project("b5=b5"), u, "b5", "", false, api.ErrReply)
	says(t, project("b=z1"), u, "b0", "", false, api.ErrReply)
	says(t, project("b=b2"), u, "b0", "", false, api.ErrReply)
	lists(t, project("b9 b=z0"), u, "main b9 d0")
}

// The function keeps the universe, and asks it each time.
func TestP16_2_Keeps(t *testing.T) {
	w := &watched{Universe: still(t, "b0: d0; d0:")}
	_, req, _ := plan.Required(project("b0"), w)
	is(t, "asked ahead", w.all(), "")
	req(word("main"))
	is(t, "asked for main", w.all(), "")
	req(word("b0"))
	is(t, "asked for another one", w.all(), "M b0")
	_, req, _ = plan.Required(project("b0 b=d0"), w)
	req(word("b0"))
	is(t, "asked for what is replaced", w.all(), "M b0; M d0")
}

func TestP16_2_List(t *testing.T) {
	u := still(t, "b0: d0; b1: d1 / .; c0: b1 d2; d0:; d1: e0; d2:; e0:; z0: e0")
	lists(t, project(""), u, "main")
	lists(t, project("b0"), u, "main b0 d0")
	lists(t, project("b0 c0!"), u, "main b1 c0 d2 e0")
	lists(t, project("b0 c0 -b1"), u, "main b0 c0 d2")
	lists(t, project("b0 c0 -d2"), u, "main b1 c0 d1 e0")
	lists(t, project("b0 b=z0"), u, "main b0 e0")
	lists(t, project("b0 d=z0"), u, "main b0 d0 e0")
	lists(t, project("b0 -b0"), u, "main")
	// Main's path is passed over, main stands first.
	v := still(t, "b0: m.n/p@v1.5.0 a.a@v1.0.0; a.a@v1.0.0:")
	lists(t, project("b0"), v, "main a.a@v1.0.0 b0")
	// Pruned.
	x := still(t, "b0~: d0; d0: e0; e0:")
	lists(t, project("b0"), x, "main b0 d0 e0")
	lists(t, project("b0 ~"), x, "main b0 d0")
}

func TestP16_2_Errors(t *testing.T) {
	u := still(t, "b0: d0; d0:")
	for text, want := range map[string]api.Errno{
		"": api.ErrNone, "module ab\n": api.ErrPath, "module a.b\nmodule a.b\n": api.ErrTwice, "module a.b\nrequire a.x/b v2.0.0\n": api.ErrMajor,
		"x": api.ErrSyntax, "module a.b\nrequire a.b v1.0.0\n": api.ErrTwice, strings.Repeat("\n", api.MaxText+1): api.ErrLong,
	} {
		p := plan.Project{Manifest: text, Lock: "also bad", Sources: []api.File{file("x.go", "bad")}}
		main, req, e := plan.Required(p, u)
		is(t, "Required, error", e, want)
		is(t, "Required, beside an error", main == api.Mod{} && req == nil, true)
		// Ahead of the workers, and of whatever the universe says.
		for _, workers := range append(crews(), badCrews()...) {
			l, e := plan.List(p, nil, workers)
			is(t, fmt.Sprintf("List of %.100q, error", text), e, want)
			is(t, "List, beside", len(l), 0)
			n, e := plan.Needed(p, nil, nil, workers)
			is(t, fmt.Sprintf("Needed of %.100q, error", text), e, want)
			is(t, "Needed, beside", len(n), 0)
		}
	}
	for _, workers := range badCrews() {
		l, e := plan.List(project("b0"), u, workers)
		is(t, "List, workers, error", e, api.ErrRange)
		is(t, "List, workers, beside", len(l), 0)
		n, e := plan.Needed(project("b0 / .>fmt"), u, nil, workers)
		is(t, "Needed, workers, error", e, api.ErrRange)
		is(t, "Needed, workers, beside", len(n), 0)
	}
	for _, workers := range []int{1, api.MaxWorkers} {
		_, e := plan.List(project("b0"), u, workers)
		is(t, "List, workers that may be", e, api.OK)
	}
	listsNot(t, project("b0 c0"), u, api.ErrNone)
	listsNot(t, project("b0"), faults(u, "M b0 25"), 25)
	listsNot(t, project("b0"), faults(u, "M d0 25"), 25)
	listsNot(t, project("b0 d0"), faults(u, "M d0 25; M b0 7"), 7)
	listsNot(t, project("b0"), faults(u, "M d0 25; M b0 7"), 7)
	listsNot(t, project("b0 b=d0"), faults(u, "M d0 25"), 25)
	lists(t, project("b0"), faults(u, "V b 25; T b0 25; T d0 26; V d 27; M b1 28"), "main b0 d0")
}

// A universe that is none, or panics, is an error where it is asked.
func TestP16_2_NoUniverse(t *testing.T) {
	says(t, project("b0"), nil, "main", "b0", false, api.OK)
	says(t, project("b0"), nil, "b0", "", false, api.ErrRange)
	lists(t, project(""), nil, "main")
	listsNot(t, project("b0"), nil, api.ErrRange)
	makesNot(t, project("b0"), "get b", nil, api.ErrRange)
	makes(t, project("/ .>fmt"), "tidy", nil, "", "")
	makesNot(t, project("/ .>b"), "tidy", nil, api.ErrMissing)
	l := mods("main b0")
	for _, workers := range crews() {
		_, e := plan.Lock(project("b0"), l, nil, workers)
		is(t, "Lock without a universe", e, api.ErrRange)
	}
}
