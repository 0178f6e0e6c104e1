package plan_test

import (
	"fmt"
	"strings"
	"testing"

	"mews/api"
	"mews/plan"
	"mews/sumfile"
)

// need is what is needed, of a text like `b0*: b b/q; d0: d`; * is explicit.
func need(text string) []sumfile.Vendored {
	var l []sumfile.Vendored
	for _, line := range strings.Split(text, ";") {
		name, packages, found := strings.Cut(strings.TrimSpace(line), ":")
		if !found {
			continue
		}
		name, explicit := strings.CutSuffix(name, "*")
		v := sumfile.Vendored{Mod: word(name), Explicit: explicit}
		for _, path := range strings.Fields(packages) {
			v.Packages = append(v.Packages, pathOf(path))
		}
		l = append(l, v)
	}
	return l
}

// vendors fails the test unless Vendor answers these files.
func vendors(t *testing.T, p plan.Project, text string, u plan.Universe, tags string, want ...api.File) {
	t.Helper()
	files, e := plan.Vendor(p, need(text), u, strings.Fields(tags))
	is(t, "Vendor of "+text+", error", e, api.OK)
	is(t, "Vendor of "+text, toldFiles(files), toldFiles(want))
}

// vendorsNot fails the test unless Vendor answers an error, and nothing beside.
func vendorsNot(t *testing.T, p plan.Project, text string, u plan.Universe, want api.Errno) {
	t.Helper()
	files, e := plan.Vendor(p, need(text), u, nil)
	is(t, "Vendor of "+text+", error", e, want)
	is(t, "Vendor of "+text+", beside an error", len(files), 0)
}

// listing is the vendored tree's list.
func listing(text string) api.File { return file("modules.txt", text) }

func TestP16_5_Vendor(t *testing.T) {
	l := sold("b0:; d0: / . e; z0: / .>z")
	l[0].Files = []api.File{
		file("q/z.go", "package q // z"), file("q/a.go", "package q\nimport \"fmt\"\n\nfunc f() {\x00}"), file("q/r/r.go", "package r\n"), file("top.go", "package b\n"), file("go.mod", "x"), file("q/go.mod", "x"), file("qq/x.go", "bad"),
	}
	u := stillOf(t, l)
	zgo, ago := file("a.x/b/q/z.go", "package q // z"), file("a.x/b/q/a.go", "package q\nimport \"fmt\"\n\nfunc f() {\x00}")
	rgo, top := file("a.x/b/q/r/r.go", "package r\n"), file("a.x/b/top.go", "package b\n")
	vendors(t, project(""), "", u, "", listing(""))
	vendors(t, project(""), "b0: b", u, "", top, listing("# a.x/b v1.0.0\na.x/b\n"))
	vendors(t, project(""), "b0*: b/q", u, "", ago, zgo, listing("# a.x/b v1.0.0\n## explicit\na.x/b/q\n"))
	vendors(t, project(""), "b0*: b/q/r b", u, "", rgo, top, listing("# a.x/b v1.0.0\n## explicit\na.x/b\na.x/b/q/r\n"))
	vendors(t, project(""), "b0: b/q b b/q/r", u, "", ago, rgo, zgo, top, listing("# a.x/b v1.0.0\na.x/b\na.x/b/q\na.x/b/q/r\n"))
	both := []api.File{top, file("a.x/d/e/x.go", source()), file("a.x/d/x.go", source()), listing("# a.x/b v1.0.0\na.x/b\n# a.x/d v1.0.0\n## explicit\na.x/d\na.x/d/e\n")}
	vendors(t, project(""), "b0: b; d0*: d d/e", u, "", both...)
	vendors(t, project(""), "d0*: d/e d; b0: b", u, "", both...)
	// A directory that has nothing, or a module without packages.
	vendors(t, project(""), "b0: b/none b/q/none", u, "", listing("# a.x/b v1.0.0\na.x/b/none\na.x/b/q/none\n"))
	vendors(t, project(""), "b0:; d0: d", u, "", file("a.x/d/x.go", source()), listing("# a.x/b v1.0.0\n# a.x/d v1.0.0\na.x/d\n"))
	// Nothing ahead of the last slash is the module itself.
	odd := sold("b0:")
	odd[0].Files = []api.File{file("/x.go", "package b"), file("y.go", "package b")}
	vendors(t, project(""), "b0: b", stillOf(t, odd), "", file("a.x/b/x.go", "package b"), file("a.x/b/y.go", "package b"), listing("# a.x/b v1.0.0\na.x/b\n"))
	// What stands in a module's place has its files, by the module's name.
	vendors(t, project("d=z0"), "d0: d", u, "", file("a.x/d/x.go", source("a.x/z")), listing("# a.x/d v1.0.0\na.x/d\n"))
	vendors(t, project("d=b0"), "d0: d/q/r", u, "", file("a.x/d/q/r/r.go", "package r\n"), listing("# a.x/d v1.0.0\na.x/d/q/r\n"))
	// A name may come ahead of, or behind, the list's.
	v := still(t, "z.z@v1.0.0: / .; b0: / .; n@v1.0.0: / .; modules.txt@v1.0.0: / .; m.a@v1.0.0: / .; mz.a@v1.0.0: / .")
	files, e := plan.Vendor(project(""), need("z.z@v1.0.0: z.z; b0: b; mz.a@v1.0.0: mz.a; m.a@v1.0.0: m.a; modules.txt@v1.0.0: modules.txt"), v, nil)
	is(t, "Vendor, error", e, api.OK)
	is(t, "Vendor, by names", names(files), "a.x/b/x.go m.a/x.go modules.txt modules.txt/x.go mz.a/x.go z.z/x.go")
}

func TestP16_5_WhatCounts(t *testing.T) {
	l := sold("b0:")
	l[0].Files = []api.File{
		file("a.go", "package b"), file("a_test.go", "bad"), file("_a.go", "bad"), file(".a.go", "bad"), file("a.txt", "bad"), file("a.go2", "bad"), file("go", "bad"), file("GO.GO", "bad"),
		file("l_linux.go", "package b"), file("w_windows.go", "bad"), file("l_linux_arm64.go", "bad"),
		file("c1.go", "//go:build fast\npackage b"), file("c2.go", "//go:build !fast\npackage b"), file("c3.go", "//go:build linux && !fast\npackage b"), file("c4.go", "//go:build !linux || fast\npackage b"),
		file("sub/a.go", "bad"), file("sub/b/a.go", "bad"), file("linux.go", "package b"),
	}
	u := stillOf(t, l)
	for tags, want := range map[string]string{
		"linux": "a.go c2.go c3.go l_linux.go linux.go", "linux fast": "a.go c1.go c4.go l_linux.go linux.go", "fast linux fast": "a.go c1.go c4.go l_linux.go linux.go",
		"": "a.go c2.go c4.go linux.go", "fast": "a.go c1.go c4.go linux.go", "darwin arm64": "a.go c2.go c4.go linux.go",
	} {
		files, e := plan.Vendor(project(""), need("b0: b"), u, strings.Fields(tags))
		is(t, "Vendor with "+tags+", error", e, api.OK)
		var words []string
		for _, name := range strings.Fields(want) {
			words = append(words, "a.x/b/"+name)
		}
		is(t, "Vendor with "+tags, names(files), strings.Join(append(words, "modules.txt"), " "))
	}
	for _, tags := range []string{"windows", "linux arm64"} {
		_, e := plan.Vendor(project(""), need("b0: b"), u, strings.Fields(tags))
		is(t, "Vendor with "+tags+", error", e, api.ErrSyntax)
	}
}

// Two modules may have one directory, and two files one name: all stay, in the
// order in which they come.
func TestP16_5_SameDirectory(t *testing.T) {
	l := sold("b0:; b/q0:")
	l[0].Files = []api.File{file("q/x.go", "package q // 1"), file("q/x.go", "package q // 2"), file("q/a.go", "package q // 3")}
	l[1].Files = []api.File{file("x.go", "package q // 4"), file("b.go", "package q // 5")}
	u := stillOf(t, l)
	text := "# a.x/b v1.0.0\na.x/b/q\n# a.x/b/q v1.0.0\na.x/b/q\n"
	vendors(t, project(""), "b0: b/q; b/q0: b/q", u, "", file("a.x/b/q/a.go", "package q // 3"), file("a.x/b/q/b.go", "package q // 5"),
		file("a.x/b/q/x.go", "package q // 1"), file("a.x/b/q/x.go", "package q // 2"), file("a.x/b/q/x.go", "package q // 4"), listing(text))
	vendors(t, project(""), "b/q0: b/q; b0: b/q", u, "", file("a.x/b/q/a.go", "package q // 3"), file("a.x/b/q/b.go", "package q // 5"),
		file("a.x/b/q/x.go", "package q // 4"), file("a.x/b/q/x.go", "package q // 1"), file("a.x/b/q/x.go", "package q // 2"), listing(text))
}

func TestP16_5_Errors(t *testing.T) {
	l := sold("b0: / . q; c0: / . q; d0: / .; z0: / .")
	l[0].Files = append(l[0].Files, file("y/bad.go", "x"), file("y/l_linux.go", "package y\nimport \"/\"\n"))
	l[1].Files = append(l[1].Files, file("y/bad.go", "package y\nimport \"/\"\n"), file("z/twice.go", "//go:build a\n//go:build a\npackage z\n"), file("w/long.go", strings.Repeat("\n", api.MaxText+1)))
	u := stillOf(t, l)
	for text, want := range map[string]api.Errno{"": api.ErrNone, "module ab": api.ErrPath, "x": api.ErrSyntax} {
		vendorsNot(t, plan.Project{Manifest: text}, "b9: q", faults(u, "T b9 25"), want)
		vendorsNot(t, plan.Project{Manifest: text}, "", u, want)
	}
	// The lock is not looked at.
	p := project("")
	p.Lock = "bad"
	vendors(t, p, "d0: d", u, "", file("a.x/d/x.go", source()), listing("# a.x/d v1.0.0\na.x/d\n"))
	for text, want := range map[string]api.Errno{
		"b9: b": api.ErrNone, "b9:": api.ErrNone, "d0: d; b9: b": api.ErrNone,
		"b0: b/y": api.ErrSyntax, "c0: c/y": api.ErrPath, "c0: c/z": api.ErrTwice, "c0: c/w": api.ErrLong,
		// In their order.
		"b0: b/y; c0: c/y": api.ErrSyntax, "c0: c/y; b0: b/y": api.ErrPath, "c0: c c/q c/z c/y": api.ErrTwice, "c0: c c/q c/y c/z": api.ErrPath,
		"b0: b/y; b9: b": api.ErrSyntax, "b9: b; b0: b/y": api.ErrNone,
		// Ahead of what the list's form says.
		"b0: z.z b/y": api.ErrSyntax, "b0: z.z; b9: b": api.ErrNone, "d0: d; d0: d; c0: c/y": api.ErrPath,
		"d0: d d": api.ErrTwice, "d0: d; d0: d/q": api.ErrTwice, "d0: z.z": api.ErrForm, "d0: d/": api.ErrPath, "d0: /d": api.ErrPath, "d0: dd": api.ErrForm, "d0: q": api.ErrForm, "d0: fmt": api.ErrForm,
	} {
		vendorsNot(t, project(""), text, u, want)
	}
	vendorsNot(t, project(""), "c0: c/y; d0: d", faults(u, "T c0 25; T d0 26"), 25)
	vendorsNot(t, project(""), "d0: d; b0: b/y", faults(u, "T d0 26"), 26)
	vendorsNot(t, project("d=z0"), "d0: d", faults(u, "T d0 25; T z0 26"), 26)
	vendorsNot(t, project(""), "b@v2.0.0: b", yes{}, api.ErrMajor)
	vendorsNot(t, project(""), "b0: b", nil, api.ErrRange)
	vendors(t, project(""), "", nil, "", listing(""))
	// A package that is no directory of its module has no files, whatever the
	// module's directories are named.
	l = sold("b0: / .")
	l[0].Files = append(l[0].Files, file("z.z/y/bad.go", "x"), file("a.x/d/bad.go", "x"))
	vendorsNot(t, project(""), "b0: z.z/y", stillOf(t, l), api.ErrForm)
	vendorsNot(t, project(""), "b0: d", stillOf(t, l), api.ErrForm)
	// Neither manifests nor versions are asked for, and the files once a module.
	w := &watched{Universe: u}
	vendors(t, project(""), "b0: b b/q", w, "", file("a.x/b/q/x.go", source()), file("a.x/b/x.go", source()), listing("# a.x/b v1.0.0\na.x/b\na.x/b/q\n"))
	is(t, "asked", w.all(), "T b0")
}

// A list that is too long for a text.
func TestP16_5_Long(t *testing.T) {
	v := sumfile.Vendored{Mod: word("b0")}
	for i := range api.MaxText {
		v.Packages = append(v.Packages, fmt.Sprint("a.x/b/q", i))
	}
	u := still(t, "b0: / .")
	files, e := plan.Vendor(project(""), []sumfile.Vendored{v}, u, nil)
	is(t, "Vendor, error", e, api.ErrLong)
	is(t, "Vendor, beside an error", len(files), 0)
	v.Packages = v.Packages[:3000]
	files, e = plan.Vendor(project(""), []sumfile.Vendored{v}, u, nil)
	is(t, "Vendor, error", e, api.OK)
	is(t, "Vendor", names(files), "modules.txt")
}
