package scan_test

import (
	"fmt"
	"slices"
	"testing"

	"mews/api"
	"mews/scan"
)

// mark is what lies behind lists, and what is written into them.
const mark = "mark"

// roomy is the list with spare room behind it, filled with others.
func roomy[T any](list []T, with T) []T {
	whole := append(slices.Clone(list), with, with, with)
	return whole[:len(list)]
}

// whole is the list with what lies behind it.
func whole[T any](list []T) []T { return list[:cap(list)] }

// spoil writes into all the memory of a list.
func spoil[T any](list []T, with T) {
	for i := range whole(list) {
		whole(list)[i] = with
	}
	_ = append(list, with, with)
}

// behind is a file that lies behind a list.
func behind() api.File { return file("x/behind.go", "package a", `import "behind"`) }

// roomyFiles is the files with room behind them and behind their bytes.
func roomyFiles(files []api.File) []api.File {
	list := roomy(files, behind())
	for i := range list {
		list[i].Data = roomy(list[i].Data, '?')
	}
	return list
}

// copied is all the memory of files, in memory of its own.
func copied(files []api.File) []string {
	var all []string
	for _, f := range whole(files) {
		all = append(all, fmt.Sprintf("%s %d %q", f.Name, len(f.Data), whole(f.Data)))
	}
	return all
}

// fileLists are lists of files, out of order, good ones and bad ones.
func fileLists() [][]api.File {
	return [][]api.File{
		nil,
		{file("x/a.go", "package a", `import "b"`)},
		{file("z.go", "package z", `import "q"`), file("x/b.go", "package a", `import ("d";"c";"d")`), file("x/a.go", "//go:build a", "package a", `import "b"`), file("x/c_linux.go", "package a")},
		{file("y/a.go", "package a"), file("x/b.go", "//go:build no", "package a", `import "b"`), file("a_test.go", "?")},
		{file("y/a.go", "package a"), badFile("x/b.go", api.ErrPath), badFile("x/a.go", api.ErrTwice)},
	}
}

func TestP14_6_FilesHandedIn(t *testing.T) {
	for _, given := range fileLists() {
		for _, tags := range [][]string{nil, list("linux a"), list("b a linux linux")} {
			files, roomyTags := roomyFiles(given), roomy(tags, mark)
			before, tagsBefore := copied(files), slices.Clone(whole(roomyTags))
			dirs, e := scan.Dirs(files, roomyTags)
			imports, importsE := scan.Imports(files, "x", roomyTags)
			isList(t, "the files that were handed in", copied(files), before)
			isList(t, "the tags that were handed in", whole(roomyTags), tagsBefore)
			plain, plainE := scan.Dirs(given, tags)
			isList(t, "Dirs, whatever lies behind", dirs, plain)
			is(t, "its error", e, plainE)
			plainImports, plainE := scan.Imports(given, "x", tags)
			isList(t, "Imports, whatever lies behind", imports, plainImports)
			is(t, "its error", importsE, plainE)
			// What becomes of it later on changes no answer.
			for i := range files {
				spoil(files[i].Data, '?')
			}
			spoil(files, behind())
			spoil(roomyTags, mark)
			isList(t, "Dirs, what was handed in spoilt", dirs, plain)
			isList(t, "Imports, what was handed in spoilt", imports, plainImports)
			// Nor does what is written into an answer change what was handed in.
			files = roomyFiles(given)
			before = copied(files)
			dirs, _ = scan.Dirs(files, tags)
			imports, _ = scan.Imports(files, "x", tags)
			spoil(dirs, mark)
			spoil(imports, mark)
			isList(t, "the files that were handed in, the answers spoilt", copied(files), before)
		}
	}
}

func TestP14_6_TagsAndModulesHandedIn(t *testing.T) {
	for _, given := range [][]string{nil, {}, list("c"), list("c a b a"), list("linux amd64 a.b a.b/c")} {
		l := roomy(given, mark)
		before := slices.Clone(whole(l))
		for _, expr := range []string{"a&&b||c", "!a", mark, "x &", ""} {
			got, e := scan.Eval(expr, l)
			want, wantE := scan.Eval(expr, given)
			is(t, "Eval, whatever lies behind", fmt.Sprint(got, e), fmt.Sprint(want, wantE))
		}
		for _, name := range []string{"a.go", "a_linux_amd64.go", "a_linux.go"} {
			is(t, "Name, whatever lies behind", scan.Name(name, l), scan.Name(name, given))
		}
		for _, path := range []string{"a.b/c/d", "a.bc", "c", mark, mark + "/a"} {
			got, e := scan.Provider(path, l)
			want, wantE := scan.Provider(path, given)
			is(t, "Provider, whatever lies behind", fmt.Sprint(got, e), fmt.Sprint(want, wantE))
		}
		isList(t, "what was handed in", whole(l), before)
	}
	evals(t, mark, roomy(list("a b"), mark), false)
	is(t, "Name by what lies behind", scan.Name("a_linux.go", roomy(list("a b"), "linux")), false)
	providesNot(t, mark+"/a", roomy(list("a b"), mark))
	// A later answer does not hang on an earlier one's tags.
	evals(t, "a", list("a"), true)
	evals(t, "a", nil, false)
	evals(t, "a", list("b"), false)
}

// apart fails the test unless what is written into a list, or behind it, is seen
// neither by another one, nor by one that is asked for later.
func apart(t *testing.T, what string, ask func() []string) {
	t.Helper()
	first, second := ask(), ask()
	want := slices.Clone(second)
	isList(t, what, first, want)
	wantWhole := slices.Clone(whole(second))
	spoil(first, mark)
	isList(t, what+", the other one", whole(second), wantWhole)
	third := ask()
	isList(t, what+", asked again", third, want)
	spoil(second, mark)
	isList(t, what+", asked again, the other one spoilt", third, want)
}

func TestP14_6_HandedOut(t *testing.T) {
	for _, src := range []string{
		"package a", `package a;import "b"`, `package a;import ("d";"c";"b")`, `package a;import ("b";"b";"b";"c";"c")`, "package a;import ()", `package a;import "b";import "c";import "d";import "e";import "f"`,
	} {
		apart(t, "Read of "+src, func() []string {
			s, _, e := scan.Read(src)
			is(t, "its error", e, api.OK)
			return s.Imports
		})
	}
	for _, files := range fileLists() {
		for _, tags := range [][]string{nil, list("linux a")} {
			apart(t, "Dirs of "+told(files), func() []string {
				l, _ := scan.Dirs(files, tags)
				return l
			})
			apart(t, "Imports of "+told(files), func() []string {
				l, _ := scan.Imports(files, "x", tags)
				return l
			})
		}
	}
}
