package plan_test

import (
	"fmt"
	"strings"
	"testing"

	"mews/api"
	"mews/plan"
)

// needs fails the test unless Needed answers these.
func needs(t *testing.T, p plan.Project, u plan.Universe, want string, tags ...string) {
	t.Helper()
	for _, workers := range crews() {
		l, e := plan.Needed(p, u, tags, workers)
		is(t, "Needed of "+p.Manifest+", error", e, api.OK)
		is(t, "Needed of "+p.Manifest, toldNeeded(l), want)
	}
}

// needsNot fails the test unless Needed answers an error, and nothing beside.
func needsNot(t *testing.T, p plan.Project, u plan.Universe, want api.Errno) {
	t.Helper()
	for _, workers := range crews() {
		l, e := plan.Needed(p, u, nil, workers)
		is(t, "Needed of "+p.Manifest+", error", e, want)
		is(t, "Needed of "+p.Manifest+", beside an error", len(l), 0)
	}
}

func TestP16_3_Needed(t *testing.T) {
	u := still(t, "b0: d0 / .>d q>b/q/r,d/e q/r>fmt unused>z.z/z; d0: / . e>f/x; d1: / .; f0: / x y; g0: b0 / .; z0: / .>g")
	needs(t, project("b0 / "), u, "")
	needs(t, project("b0 / .>fmt,os,net/url,C sub>fmt"), u, "")
	needs(t, project("b0 / .>b"), u, "b0*: a.x/b; d0: a.x/d")
	needs(t, project("b0! / .>b"), u, "b0: a.x/b; d0: a.x/d")
	needs(t, project("b0 d0! / .>b"), u, "b0*: a.x/b; d0: a.x/d")
	needs(t, project("b0 d0 / .>b"), u, "b0*: a.x/b; d0*: a.x/d")
	needs(t, project("b0 d1 / .>b"), u, "b0*: a.x/b; d1*: a.x/d")
	needs(t, project("b0 d0! / sub/deep>d"), u, "d0: a.x/d")
	needs(t, project("b0 f0 / .>b/q"), u, "b0*: a.x/b/q a.x/b/q/r; d0: a.x/d/e; f0*: a.x/f/x")
	needs(t, project("b0 f0 / .>b/q,f/y other>b,f/x"), u, "b0*: a.x/b a.x/b/q a.x/b/q/r; d0: a.x/d a.x/d/e; f0*: a.x/f/x a.x/f/y")
	// The build list's version, of what is explicit too.
	needs(t, project("b0 d0 g0 / .>d"), still(t, "b0: d1; d0: / .; d1: / .; g0:"), "d1*: a.x/d")
	// What is excluded is required all the same.
	needs(t, project("d0 b0 -d0 / .>d"), still(t, "b0: d1; d0: / .; d1: / ."), "d1*: a.x/d")
	// What stands in a module's place has its packages, by the module's path.
	needs(t, project("b0 g0 d=z0 / .>b"), u, "b0*: a.x/b; d0: a.x/d; g0*: a.x/g")
	needsNot(t, project("b0 g0 d=z0 / .>b/q"), u, api.ErrMissing)
}

func TestP16_3_MainsOwn(t *testing.T) {
	u := still(t, "b0: / .>main/q,main; p@v1.0.0:; m.n@v1.0.0: / p/z")
	needs(t, project("b0 / .>main/q q>main q/r>main/q,main"), u, "")
	needs(t, project("b0 / .>b q"), u, "b0*: a.x/b")
	needsNot(t, project("b0 / .>main/r q"), u, api.ErrMissing)
	// Of another one's too.
	needsNot(t, project("b0 / .>b"), u, api.ErrMissing)
	// The nearest is main, though another one has it.
	needsNot(t, project("m.n@v1.0.0 / .>main/z"), u, api.ErrMissing)
	// A directory of main may have the path of another one's package.
	v := still(t, "m.n/p/q@v1.0.0: / .>b; b0: / .")
	needs(t, project("m.n/p/q@v1.0.0 b0 / .>main/q q>fmt"), v, "b0*: a.x/b; m.n/p/q@v1.0.0*: m.n/p/q")
}

func TestP16_3_Nearest(t *testing.T) {
	u := still(t, "b0: / . q q/r; b/q0: / . r s")
	needs(t, project("b0 b/q0 / .>b,b/q,b/q/r,b/q/s"), u, "b0*: a.x/b; b/q0*: a.x/b/q a.x/b/q/r a.x/b/q/s")
	needs(t, project("b0 / .>b/q/r"), u, "b0*: a.x/b/q/r")
	needsNot(t, project("b0 b/q0 / .>b/q/q"), u, api.ErrMissing)
	needsNot(t, project("b0 / .>bb"), u, api.ErrMissing)
}

func TestP16_3_Missing(t *testing.T) {
	u := still(t, "b0: d0 / .>d/none r>z.z/z; d0: / .")
	needsNot(t, project("b0 / .>z.z/z"), u, api.ErrMissing)
	needsNot(t, project("/ .>b"), u, api.ErrMissing)
	needsNot(t, project("b0 / .>b/q"), u, api.ErrMissing)
	needsNot(t, project("b0 / .>b"), u, api.ErrMissing)
	needsNot(t, project("b0 / .>b/r"), u, api.ErrMissing)
	needsNot(t, project("b0 -b0 / .>b"), u, api.ErrMissing)
	needs(t, project("b0 / .>d"), u, "d0: a.x/d")
}

func TestP16_3_Ring(t *testing.T) {
	u := still(t, "b0: d0 / .>d q>b/q/r q/r>b/q,b; d0: b0 / .>e; e0: / .>b; f0: d0 e0 / .")
	needs(t, project("b0 f0 / .>b"), u, "b0*: a.x/b; d0: a.x/d; e0: a.x/e")
	needs(t, project("b0 f0 / .>b/q/r"), u, "b0*: a.x/b a.x/b/q a.x/b/q/r; d0: a.x/d; e0: a.x/e")
	needs(t, project("b0 f0 / .>main/q q>main,e"), u, "b0*: a.x/b; d0: a.x/d; e0: a.x/e")
}

// Only what counts is looked at, of all files.
func TestP16_3_Tags(t *testing.T) {
	l := sold("b0:; d0: / .; e0: / .; f0: / .")
	l[0].Files = []api.File{
		file("b_linux.go", source("a.x/d")), file("b_darwin.go", source("a.x/e")), file("b_test.go", "bad"), file("_b.go", "bad"), file("b.txt", "bad"),
		file("c.go", "//go:build fast\n"+source("a.x/f")), file("q/q_linux.go", source()), file("r/r_test.go", source()), file("s/s.go", "//go:build fast\npackage s\n"),
	}
	u := stillOf(t, l)
	p := project("b0 d0 e0 f0 / .>b")
	needs(t, p, u, "b0*: a.x/b; d0*: a.x/d", "linux")
	needs(t, p, u, "b0*: a.x/b; e0*: a.x/e", "darwin")
	needs(t, p, u, "b0*: a.x/b; d0*: a.x/d; e0*: a.x/e; f0*: a.x/f", "darwin", "fast", "linux")
	needs(t, p, u, "b0*: a.x/b; f0*: a.x/f", "fast")
	needsNot(t, p, u, api.ErrMissing)
	needs(t, project("b0 / .>b/q"), u, "b0*: a.x/b/q", "linux")
	needsNot(t, project("b0 / .>b/q"), u, api.ErrMissing)
	needsNot(t, project("b0 / .>b/r"), u, api.ErrMissing)
	needs(t, project("b0 / .>b/s"), u, "b0*: a.x/b/s", "fast")
	// Of the sources too.
	p.Sources = []api.File{file("x_linux.go", source("a.x/d")), file("y/x_windows.go", source("a.x/e")), file("z_test.go", "bad")}
	needs(t, p, u, "d0*: a.x/d", "linux")
	needs(t, p, u, "e0*: a.x/e", "windows")
	needs(t, p, u, "")
}

func TestP16_3_FilesErrors(t *testing.T) {
	bad := map[string]string{"ok": "package p\n", "syntax": "package", "path": "package p\nimport \"/\"\n", "twice": "//go:build a\n//go:build a\npackage p\n", "long": strings.Repeat("\n", api.MaxText+1)}
	errs := map[string]api.Errno{"syntax": api.ErrSyntax, "path": api.ErrPath, "twice": api.ErrTwice, "long": api.ErrLong}
	for name, want := range errs {
		// Of the sources: ahead of anything that they import.
		p := project("b0 / .>z.z/z")
		p.Sources = append(p.Sources, file("far/y.go", bad[name]))
		u := still(t, "b0: / .")
		needsNot(t, p, u, want)
		// Of a module, wherever in it.
		l := sold("b0: / . q")
		l[0].Files = append(l[0].Files, file("far/y.go", bad[name]))
		v := stillOf(t, l)
		needsNot(t, project("b0 / .>b"), v, want)
		needsNot(t, project("b0 / .>b/none"), v, want)
		needs(t, project("b0 / .>fmt"), v, "")
	}
	// By rising names, the first one that has an error.
	p := project("")
	p.Sources = []api.File{file("d.go", bad["syntax"]), file("b.go", bad["ok"]), file("c/d.go", bad["path"]), file("c.go", bad["twice"])}
	needsNot(t, p, still(t, ""), api.ErrTwice)
	// The build list's error comes ahead of the sources'.
	p = project("b0")
	p.Sources = []api.File{file("d.go", bad["syntax"])}
	needsNot(t, p, still(t, ""), api.ErrNone)
	needsNot(t, p, still(t, "b0:"), api.ErrSyntax)
}

// The first error of a round, by rising import paths, is the answer.
func TestP16_3_Rounds(t *testing.T) {
	u := still(t, "b0: / .>z.z/z; c0: / .; d0: / .>e; e0: / .; f0: / .>c; g0: / .>e,f h>i/none; i0: / .")
	all := "b0 c0 d0 e0 f0 g0 i0 "
	for text, want := range map[string]api.Errno{
		// Two errors of one round: of what is imported, in order.
		"T b0 25; T c0 26": 25, "T c0 26; T d0 27": 26, "T f0 25; T d0 26": 26,
	} {
		needsNot(t, project(all+"/ .>b,c,d,f"), faults(u, text), want)
	}
	// Of main's packages the least one's, though another one imports what is less.
	needsNot(t, project(all+"/ q>c r>b"), faults(u, "T c0 25; T b0 26"), 25)
	needsNot(t, project(all+"/ q>c .>d r>b"), faults(u, "T c0 25; T b0 26; T d0 27"), 27)
	needsNot(t, project(all+"/ q>c,fmt,os .>d r>b"), faults(u, "T c0 25; T b0 26"), 25)
	needsNot(t, project(all+"/ q!>c q/r>b"), faults(u, "T c0 25; T b0 26"), 25)
	// A round ends ahead of the next one's: b's import is missing in the second
	// round, but d's is told in the first.
	needsNot(t, project(all+"/ .>b,d"), faults(u, "T d0 25"), 25)
	needsNot(t, project(all+"/ .>b,d"), faults(u, "T e0 25"), api.ErrMissing)
	needsNot(t, project(all+"/ .>d,g"), faults(u, "T e0 25; T f0 26"), 25)
	needsNot(t, project(all+"/ .>d,g/h"), faults(u, "T e0 25"), 25)
	needsNot(t, project(all+"/ .>d,g/h"), u, api.ErrMissing)
	needsNot(t, project(all+"/ .>g/h"), faults(u, "T i0 25"), 25)
	// Imports in order, at once.
	needsNot(t, project(all+"/ .>z.z/z,g"), faults(u, "T g0 25"), 25)
	needsNot(t, project(all+"/ .>z.z/z,zz.z/g"), u, api.ErrMissing)
	needsNot(t, project(all+"/ .>a.a/a,g"), faults(u, "T g0 25"), api.ErrMissing)
	// What nobody needs is not asked for its files.
	needs(t, project(all+"/ .>d"), faults(u, "T b0 25; T c0 26; T f0 27; T g0 28; V d 29; V e 30"), "d0*: a.x/d; e0*: a.x/e")
	// What stands in its place is asked.
	needsNot(t, project(all+"d=i0 / .>d"), faults(u, "T i0 25; T d0 26"), 25)
}

// wide is modules of many packages: b0 has so many, each but the last imports
// the next one.
func wide(count int) []plan.Sold {
	l := sold("b0:")
	for i := range count {
		var imports []string
		if i+1 < count {
			imports = append(imports, fmt.Sprintf("a.x/b/q%d", i+1))
		}
		l[0].Files = append(l[0].Files, file(fmt.Sprintf("q%d/x.go", i), source(imports...)))
	}
	return l
}

func TestP16_3_Many(t *testing.T) {
	const most = 10 * api.MaxMods
	u := stillOf(t, append(wide(most), sold("c0: / .>z.z/z; d0: / . e")...))
	p := project("b0")
	l, e := plan.Needed(p, u, nil, 1)
	is(t, "none needed, error", e, api.OK)
	is(t, "none needed", len(l), 0)
	// b's are so many; main's come besides.
	many := func(from, own int) plan.Project {
		p := project("b0 c0 d0")
		p.Sources = append(p.Sources, file("own/x.go", source(fmt.Sprintf("a.x/b/q%d", from))))
		for i := range own - 1 {
			p.Sources = append(p.Sources, file(fmt.Sprintf("own%d/x.go", i), source()))
		}
		return p
	}
	for from, own := range map[int]int{1: 1, 2: 2, 1500: 1500, most - 1: most - 1} {
		l, e := plan.Needed(many(from, own), u, nil, 3)
		is(t, fmt.Sprint(from, own, ", error"), e, api.OK)
		is(t, fmt.Sprint(from, own, ", modules"), len(l), 1)
		is(t, fmt.Sprint(from, own, ", packages"), len(l[0].Packages), most-from)
		needsNot(t, many(from-1, own), u, api.ErrMany)
		needsNot(t, many(from, own+1), u, api.ErrMany)
	}
	// Behind a round: its other errors come ahead, those of the next one don't.
	over := many(most-1, most)
	over.Sources = append(over.Sources, file("z/x.go", source("a.x/c")))
	needsNot(t, over, u, api.ErrMany)
	over.Sources = append(over.Sources, file("zz/x.go", source("z.z/z")))
	needsNot(t, over, u, api.ErrMissing)
	over = many(most-1, most)
	needsNot(t, over, faults(u, "T b0 25"), 25)
	// Also where nothing is needed but main's.
	p.Sources = nil
	for i := range most {
		p.Sources = append(p.Sources, file(fmt.Sprintf("own%d/x.go", i), source()))
	}
	needs(t, p, u, "")
	p.Sources = append(p.Sources, file("x.go", source()))
	needsNot(t, p, u, api.ErrMany)
	makesNot(t, p, "vendor", u, api.ErrMany)
	makesNot(t, p, "tidy", u, api.ErrMany)
}

// Beside an error of the sources no universe is asked for files; behind one of
// u nothing else is.
func TestP16_3_Asked(t *testing.T) {
	w := &watched{Universe: still(t, "b0: d0 / .>d; d0: / .; c0: / .")}
	needs(t, project("b0 c0 / .>b"), w, "b0*: a.x/b; d0: a.x/d")
	is(t, "what is asked", w.all(), "M b0; M c0; M d0; T b0; T d0")
	w = &watched{Universe: still(t, "b0: / .; c0: / .; z0: / .")}
	needs(t, project("b0 c0 b=z0 / .>b"), w, "b0*: a.x/b")
	is(t, "what is asked, replaced", w.all(), "M c0; M z0; T z0")
}
