package scan_test

import (
	"fmt"
	"math/rand"
	"slices"
	"strings"
	"testing"

	"mews/api"
	"mews/scan"
)

// told are the names of files.
func told(files []api.File) string {
	var names []string
	for _, f := range files {
		names = append(names, fmt.Sprintf("%s: %.40q", f.Name, f.Data))
	}
	return strings.Join(names, ", ")
}

// hasDirs fails the test unless these are the files' directories.
func hasDirs(t *testing.T, files []api.File, tags []string, want ...string) {
	t.Helper()
	got, e := scan.Dirs(files, tags)
	what := fmt.Sprintf("Dirs(%.300s, %q)", told(files), tags)
	is(t, what+", its error", e, api.OK)
	isList(t, what, got, want)
}

// hasNoDirs fails the test unless that is the files' error.
func hasNoDirs(t *testing.T, files []api.File, tags []string, want api.Errno) {
	t.Helper()
	got, e := scan.Dirs(files, tags)
	what := fmt.Sprintf("Dirs(%.300s, %q)", told(files), tags)
	is(t, what+", its error", e, want)
	isList(t, what, got, nil)
}

// hasImports fails the test unless these are the directory's imports.
func hasImports(t *testing.T, files []api.File, dir string, tags []string, want ...string) {
	t.Helper()
	got, e := scan.Imports(files, dir, tags)
	what := fmt.Sprintf("Imports(%.300s, %q, %q)", told(files), dir, tags)
	is(t, what+", its error", e, api.OK)
	isList(t, what, got, want)
}

// hasNoImports fails the test unless that is the directory's error.
func hasNoImports(t *testing.T, files []api.File, dir string, tags []string, want api.Errno) {
	t.Helper()
	got, e := scan.Imports(files, dir, tags)
	what := fmt.Sprintf("Imports(%.300s, %q, %q)", told(files), dir, tags)
	is(t, what+", its error", e, want)
	isList(t, what, got, nil)
}

func TestP14_5_None(t *testing.T) {
	for _, files := range [][]api.File{nil, {}, {{}}, {file("a.c", "package a")}, {file("", "package a")}, {file("x/", "package a")}, {file("a_test.go", "package a"), file("x/_a.go", "package a"), file("x/.a.go", "package a"), file("x/a_linux.go", "package a")}} {
		hasDirs(t, files, nil)
		for _, dir := range []string{"", "x", "a", "/", "."} {
			hasNoImports(t, files, dir, nil, api.ErrNone)
		}
	}
}

func TestP14_5_Directories(t *testing.T) {
	hasDirs(t, []api.File{file("a.go", "package a")}, nil, "")
	hasDirs(t, []api.File{file("x/a.go", "package a")}, nil, "x")
	hasDirs(t, []api.File{file("x/y/a.go", "package a")}, nil, "x/y")
	hasDirs(t, []api.File{file("x/y/z/a.go", "package a"), file("x/y/b.go", "package a"), file("c.go", "package a"), file("x/d.go", "package a")}, nil, "", "x", "x/y", "x/y/z")
	// Byte by byte, each once, whatever order the files come in.
	hasDirs(t, []api.File{file("b/a.go", "package a"), file("a/b/a.go", "package a"), file("a/a.go", "package a"), file("a-b/a.go", "package a"), file("B/a.go", "package a"), file("a/b.go", "package a"), file("a.b/c.go", "package a"), file("b/b.go", "package b"), file("z.go", "package z"), file("y.go", "package z")},
		nil, "", "B", "a", "a-b", "a.b", "a/b", "b")
	// What stands ahead of the last `/` is the directory, whatever it is.
	hasDirs(t, []api.File{file("/a.go", "package a"), file("//a.go", "package a"), file("x//a.go", "package a"), file("_x/a.go", "package a"), file(".x/.y/a.go", "package a"), file("x_test.go/a.go", "package a"), file("a_linux/b.go", "package a"), file("linux/amd64.go", "package a"), file("./a.go", "package a"), file("é/a.go", "package a"), file("testdata/a.go", "package a"), file("vendor/a.go", "package a")},
		nil, "", ".", ".x/.y", "/", "_x", "a_linux", "linux", "testdata", "vendor", "x/", "x_test.go", "é")
	hasImports(t, []api.File{file("/a.go", `package a;import "b"`), file("c.go", `package a;import "d"`)}, "", nil, "b", "d")
	hasImports(t, []api.File{file("//a.go", `package a;import "b"`), file("/c.go", `package a;import "d"`)}, "/", nil, "b")
	// One file that counts is enough, wherever it stands among them.
	hasDirs(t, []api.File{file("x/a_linux.go", "package a"), file("x/b.go", "//go:build y", "package a"), file("x/c.go", "package a"), file("x/d.txt", "?"), file("y/a_linux.go", "package a"), file("y/b.go", "//go:build y", "package a")}, nil, "x")
}

func TestP14_5_ByNameAndConstraint(t *testing.T) {
	files := []api.File{
		file("x/a.go", "package a", `import "a"`),
		file("x/b_linux.go", "package a", `import "b"`),
		file("x/c_linux_arm64.go", "package a", `import "c"`),
		file("x/d.go", "//go:build linux", "package a", `import "d"`),
		file("x/e.go", "//go:build !linux", "package a", `import "e"`),
		file("x/f_arm64.go", "//go:build linux || darwin", "package a", `import "f"`),
		file("x/g_test.go", "package a", `import "g"`),
		file("x/_h.go", "package a", `import "h"`),
		file("x/.i.go", "package a", `import "i"`),
		file("x/j.c", "package a", `import "j"`),
		file("x/k.go", "package a", "//go:build no", `import "k"`),
		file("x/l.go", "// //go:build no", "package b", `import "l"`),
		file("y/m_darwin.go", "package a", `import "m"`),
		file("z/n.go", "//go:build no && linux", "package a", `import "n"`),
	}
	chance := rand.New(rand.NewSource(145))
	for tags, want := range map[string][3]string{
		"":                   {"x", "a e k l", "-"},
		"linux":              {"x", "a b d k l", "-"},
		"arm64":              {"x", "a e k l", "-"},
		"linux arm64":        {"x", "a b c d f k l", "-"},
		"darwin":             {"x y", "a e k l", "m"},
		"darwin arm64 arm64": {"x y", "a e f k l", "m"},
		"no":                 {"x", "a e k l", "-"},
		"no linux":           {"x z", "a b d k l", "-"},
		"windows amd64 x":    {"x", "a e k l", "-"},
	} {
		for range 5 {
			hasDirs(t, files, list(tags), list(want[0])...)
			hasImports(t, files, "x", list(tags), list(want[1])...)
			if want[2] == "-" {
				hasNoImports(t, files, "y", list(tags), api.ErrNone)
			} else {
				hasImports(t, files, "y", list(tags), list(want[2])...)
			}
			files = shuffled(chance, files)
		}
	}
}

func TestP14_5_ImportsOfADirectory(t *testing.T) {
	files := []api.File{
		file("x/b.go", "package x", `import ("q";"p")`),
		file("x/a.go", "package x", `import "r"`, `import "p"`),
		file("x/y/c.go", "package y", `import "inner"`),
		file("d.go", "package d", `import "outer"`),
		file("xx/e.go", "package e"),
		file("x.go", "package x", `import "name"`),
		file("x/y.go", "package x"),
	}
	hasImports(t, files, "x", nil, "p", "q", "r")
	hasImports(t, files, "x/y", nil, "inner")
	hasImports(t, files, "", nil, "name", "outer")
	hasImports(t, files, "xx", nil)
	for _, dir := range []string{"y", "x/", "/x", "X", "x/y/", "x/y/c.go", "x.go", "x/y.go", ".", "/", "*", "x/a"} {
		hasNoImports(t, files, dir, nil, api.ErrNone)
	}
	// One that counts and imports nothing is no error.
	hasImports(t, []api.File{file("a.go", "package a")}, "", nil)
	hasImports(t, []api.File{file("x/a.go", "package a"), file("x/b_linux.go", "package a", `import "b"`)}, "x", nil)
	hasNoImports(t, []api.File{file("x/a.go", "//go:build no", "package a", `import "b"`)}, "x", nil, api.ErrNone)
	// Packages of other names count all the same.
	hasImports(t, []api.File{file("a.go", "package a", `import "b"`), file("b.go", "package b", `import "B"`), file("c.go", "package main", `import "C"`)}, "", nil, "B", "C", "b")
}

// badFile is a file whose Read has that error.
func badFile(name string, e api.Errno) api.File {
	switch e {
	case api.ErrSyntax:
		return file(name, "?")
	case api.ErrTwice:
		return file(name, "//go:build x", "//go:build x", "package a")
	case api.ErrPath:
		return file(name, "package a", `import "/"`)
	}
	return file(name, strings.Repeat("/", api.MaxText+1))
}

func TestP14_5_Errors(t *testing.T) {
	good := []api.File{file("b/m.go", "package a", `import "b"`), file("m.go", "package a"), file("z/m_linux.go", "package a")}
	for _, e := range []api.Errno{api.ErrSyntax, api.ErrTwice, api.ErrPath, api.ErrLong} {
		for _, name := range []string{"b/a.go", "b/z.go", "b/m0.go", "b/a_linux.go"} {
			for at := range len(good) + 1 {
				files := slices.Insert(slices.Clone(good), at, badFile(name, e))
				hasNoDirs(t, files, list("linux"), e)
				hasNoImports(t, files, "b", list("linux"), e)
				hasImports(t, files, "", list("linux"))
				hasImports(t, files, "z", list("linux"))
				hasNoImports(t, files, "y", list("linux"), api.ErrNone)
			}
		}
		// It is looked at only if its name counts.
		for _, name := range []string{"b/a_test.go", "b/_a.go", "b/.a.go", "b/a.c", "b/a_darwin.go", "b/a_linux_arm64.go", "b/a", "b/a.go/c"} {
			files := append(slices.Clone(good), badFile(name, e))
			hasDirs(t, files, list("linux"), "", "b", "z")
			hasImports(t, files, "b", list("linux"), "b")
		}
		// One that is at fault does not count, and its error is told ahead of ErrNone.
		hasNoDirs(t, []api.File{badFile("b/a.go", e)}, nil, e)
		hasNoImports(t, []api.File{badFile("b/a.go", e)}, "b", nil, e)
		hasNoImports(t, []api.File{badFile("b/a.go", e)}, "", nil, api.ErrNone)
		hasNoImports(t, []api.File{badFile("b/a.go", e), file("b/b.go", "//go:build no", "package b")}, "b", nil, e)
		hasNoImports(t, []api.File{badFile("b/c/a.go", e), badFile("a.go", e)}, "b", nil, api.ErrNone)
	}
	// Whatever its constraint says.
	no := []api.File{file("b/a.go", "//go:build no", "package a", `import "/"`)}
	hasNoDirs(t, no, nil, api.ErrPath)
	hasNoImports(t, no, "b", nil, api.ErrPath)
}

// Of several that are at fault the one of the least name is told.
func TestP14_5_TheFirstError(t *testing.T) {
	errs := []api.Errno{api.ErrSyntax, api.ErrTwice, api.ErrPath, api.ErrLong}
	names := []string{"A.go", "a-b/c.go", "a.go", "a/b.go", "a/b/a.go", "a/c.go", "a0.go", "b/a.go", "b/a_linux.go", "é.go"}
	chance := rand.New(rand.NewSource(1405))
	for range 300 {
		var files []api.File
		first, firstIn := map[bool]api.Errno{}, map[string]api.Errno{}
		for _, name := range some(chance, names) {
			e := draw(chance, errs...)
			dir := name[:max(0, strings.LastIndex(name, "/"))]
			if _, is := first[true]; !is {
				first[true] = e
			}
			if _, is := firstIn[dir]; !is {
				firstIn[dir] = e
			}
			files = append(files, badFile(name, e))
		}
		files = shuffled(chance, append(files, file("good.go", "package a"), file("a/good.go", "package a"), file("c/good.go", "package a"), badFile("a/_.go", api.ErrPath), badFile("A_test.go", api.ErrTwice), badFile("0_darwin.go", api.ErrLong)))
		if e, is := first[true]; is {
			hasNoDirs(t, files, list("linux"), e)
		} else {
			hasDirs(t, files, list("linux"), "", "a", "c")
		}
		for _, dir := range []string{"", "a", "a/b", "a-b", "b"} {
			if e, is := firstIn[dir]; is {
				hasNoImports(t, files, dir, list("linux"), e)
			}
		}
		hasImports(t, files, "c", list("linux"))
	}
}

// Of two of the same name the first in the list is first.
func TestP14_5_TheSameNameTwice(t *testing.T) {
	path, twice := badFile("x/a.go", api.ErrPath), badFile("x/a.go", api.ErrTwice)
	good, other := file("x/a.go", "package a", `import "b"`), file("x/a.go", "package a", `import "c"`)
	for _, files := range [][]api.File{{path, twice}, {good, path, twice}, {path, good, twice}, {path, twice, good}, {file("x/b.go", "?"), path, twice}} {
		hasNoDirs(t, files, nil, api.ErrPath)
		hasNoImports(t, files, "x", nil, api.ErrPath)
		slices.Reverse(files)
		hasNoDirs(t, files, nil, api.ErrTwice)
		hasNoImports(t, files, "x", nil, api.ErrTwice)
	}
	hasDirs(t, []api.File{good, other, good}, nil, "x")
	hasImports(t, []api.File{good, other, good}, "x", nil, "b", "c")
	var many []api.File
	for i := range 100 {
		many = append(many, file("x/a.go", "package a", fmt.Sprintf(`import "p%d"`, i)), badFile("x/b.go", draw(rand.New(rand.NewSource(int64(i))), api.ErrPath, api.ErrTwice)))
	}
	many[1] = badFile("x/b.go", api.ErrLong)
	hasNoDirs(t, many, nil, api.ErrLong)
	hasNoImports(t, many, "x", nil, api.ErrLong)
}

func TestP14_5_ManyFiles(t *testing.T) {
	var files []api.File
	var dirs, imports []string
	for i := range 3000 {
		dir := fmt.Sprintf("d%04d", i%1000)
		files = append(files, file(fmt.Sprintf("%s/f%d.go", dir, i), "package a", fmt.Sprintf(`import "p%d"`, i)))
		dirs = append(dirs, dir)
		if i%1000 == 7 {
			imports = append(imports, fmt.Sprint("p", i))
		}
	}
	files = shuffled(rand.New(rand.NewSource(3000)), files)
	hasDirs(t, files, nil, sortedOnce(dirs)...)
	hasImports(t, files, "d0007", nil, sortedOnce(imports)...)
}

// drawFiles are files of a few directories, some of which are at fault.
func drawFiles(chance *rand.Rand) []api.File {
	var files []api.File
	for range chance.Intn(9) {
		name := draw(chance, "", "x/", "y/", "x/y/", "x-y/", "/") + draw(chance, "", "_", ".", "a_", "linux") + draw(chance, "a", "b", "linux", "arm64", "linux_arm64", "b_test", "é") + draw(chance, ".go", ".go", ".go", ".go", ".c")
		files = append(files, file(name, drawSource(chance)))
	}
	return files
}

func TestP14_5_AllThatAreDrawn(t *testing.T) {
	chance := rand.New(rand.NewSource(5))
	found := map[api.Errno]int{}
	for range 6000 {
		files := drawFiles(chance)
		tags := some(chance, list("linux arm64 x y"))
		dirs, _, e := modelFiles(files, tags, func(string) bool { return true })
		found[e]++
		if e == api.OK {
			hasDirs(t, files, tags, dirs...)
		} else {
			hasNoDirs(t, files, tags, e)
		}
		for _, dir := range []string{"", "x", "x/y", "z"} {
			in, imports, e := modelFiles(files, tags, func(d string) bool { return d == dir })
			switch {
			case e != api.OK:
				hasNoImports(t, files, dir, tags, e)
			case len(in) == 0:
				hasNoImports(t, files, dir, tags, api.ErrNone)
			default:
				hasImports(t, files, dir, tags, imports...)
			}
		}
	}
	is(t, fmt.Sprint("whether there were enough of each: ", found), found[api.OK] > 500 && found[api.ErrSyntax] > 500 && found[api.ErrPath] > 50 && found[api.ErrTwice] > 20, true)
}
