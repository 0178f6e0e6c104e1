package scan_test

import (
	"fmt"
	"math/rand"
	"slices"
	"strings"
	"testing"

	"mews/api"
	"mews/scan"
)

// sameRead fails the test unless Read says the same of both.
func sameRead(t *testing.T, src, other string) {
	t.Helper()
	a, lineA, eA := scan.Read(src)
	b, lineB, eB := scan.Read(other)
	is(t, fmt.Sprintf("Read(%.300q), as of %.300q", other, src), fmt.Sprint(b.Package, b.Imports, b.Constraint, lineB, eB), fmt.Sprint(a.Package, a.Imports, a.Constraint, lineA, eA))
}

// frontOf is a front that imports the paths, in this order; it ends with an end.
func frontOf(chance *rand.Rand, constraint, name string, paths []string) string {
	return drawHead(chance, constraint) + "package " + drawBlank(chance) + name + drawEnds(chance, 1) + drawDecls(chance, paths)
}

func drawPaths(chance *rand.Rand) []string {
	var paths []string
	for range chance.Intn(6) {
		paths = append(paths, drawPath(chance))
	}
	return paths
}

// drawRest is whatever, behind a name that isn't `import`.
func drawRest(chance *rand.Rand) string {
	s := draw(chance, "func", "var", "x", "_", "é", "\xff", "package", "Import", "imports", "type", "import_", "const")
	for range chance.Intn(8) {
		s += draw(chance, " ", "\n", ";", "import \"z\"", "\nimport \"z\"\n", "import (", "\"", "`", "/*", "*/", "//", "\n//go:build (\n", "\n//go:build z\n", "package b", "(", ")", ".", "?", "\x00", "\xfe", "\\", "5", "x", "\"/\"", "{ }")
	}
	return s
}

func TestP14_7_WhateverStandsBehind(t *testing.T) {
	chance := rand.New(rand.NewSource(147))
	for range 8000 {
		name, paths, constraint := drawName(chance), drawPaths(chance), draw(chance, "", "x", "!x||y")
		front := frontOf(chance, constraint, name, paths)
		want := scan.Source{Package: name, Imports: sortedOnce(paths), Constraint: constraint}
		reads(t, front, want)
		for range 3 {
			reads(t, front+drawRest(chance), want)
		}
	}
	// Up to the bound of a source, whatever stands there.
	front := "package a\nimport \"b\"\n"
	for _, with := range []string{"(", "\"", "`", "/*", "\n", "import ", "\x00", "x"} {
		rest := "x " + strings.Repeat(with, api.MaxText/len(with))
		reads(t, front+rest[:api.MaxText-len(front)], source("a", "b"))
	}
}

// A fault in the front is told whatever stands behind.
func TestP14_7_FaultsInTheFront(t *testing.T) {
	chance := rand.New(rand.NewSource(174))
	for range 3000 {
		front := frontOf(chance, "", "a", drawPaths(chance))
		lineOf := strings.Count(front, "\n") + 1
		bad := draw(chance, "import x\n", "import (x\n", "import \"b\" c\n", "import ()\"b\"\n", "import;", "import . x\n", "import import\n")
		refuses(t, front+bad+drawRest(chance), lineOf, api.ErrSyntax)
		refuses(t, front+"import `/`\n"+drawRest(chance), lineOf, api.ErrPath)
	}
}

// Comments and blanks, and the order and grouping of specs, change no imports.
func TestP14_7_OrderAndGrouping(t *testing.T) {
	chance := rand.New(rand.NewSource(741))
	for range 4000 {
		paths := drawPaths(chance)
		want := source("a", sortedOnce(paths)...)
		var single, grouped string
		for _, path := range paths {
			single += "import \"" + path + "\"\n"
			grouped += "\t\"" + path + "\"\n"
		}
		reads(t, "package a\n"+single, want)
		reads(t, "package a\nimport (\n"+grouped+")\n", want)
		for range 3 {
			reads(t, frontOf(chance, "", "a", shuffled(chance, paths)), want)
			reads(t, frontOf(chance, "", "a", shuffled(chance, append(some(chance, paths), paths...))), want)
		}
	}
}

// Between any two tokens a blank or a comment changes nothing, nor does an end
// more where one is.
func TestP14_7_CommentsAndBlanks(t *testing.T) {
	chance := rand.New(rand.NewSource(471))
	tokens := []string{"package", "a", ";", "import", "`b`", ";", "import", "x", "\"c\"", ";", "import", ".", "`d`", ";", "import", "(", ";", "\"e\"", ";", "_", "`f`", ";", "y", "\"g\"", ")", ";", "import", "(", ")", ";"}
	plain := strings.Join(tokens, " ")
	reads(t, plain, source("a", list("b c d e f g")...))
	gaps := []string{" ", "\t", "\r", "\r \t", "/**/", "/* x */", " /***/ ", "/*//*/", "/*\"`*/", "/*import \"z\"*/", "/*\xff\x00*/"}
	for i := range tokens {
		for _, gap := range gaps {
			sameRead(t, plain, strings.Join(tokens[:i], " ")+gap+strings.Join(tokens[i:], " "))
			sameRead(t, plain, strings.Join(tokens[:i+1], " ")+gap+strings.Join(tokens[i+1:], " "))
		}
		if tokens[i] == ";" {
			for _, end := range []string{"\n", "//\n", "// x\n", "/*\n*/", ";;", ";\n", "\r\n", "\n\n\t\n", "//\"\n//`\n", "/* x\n\n*/;"} {
				sameRead(t, plain, strings.Join(tokens[:i], " ")+end+strings.Join(tokens[i+1:], " "))
			}
		}
	}
	for range 3000 {
		src := drawBlank(chance)
		for i, token := range tokens {
			if token == ";" {
				src += drawEnds(chance, 1)
				continue
			}
			src += token + drawBlank(chance)
			if i == 0 || tokens[i] == "import" {
				src += " "
			}
		}
		sameRead(t, plain, src)
	}
}

// truth is whether an expression is true; it fails the test if it is none.
func truth(t *testing.T, expr string, tags []string) bool {
	t.Helper()
	got, e := scan.Eval(expr, tags)
	is(t, fmt.Sprintf("Eval(%s, %q), its error", brief(expr), tags), e, api.OK)
	return got
}

func TestP14_8_LawsOfTruth(t *testing.T) {
	chance := rand.New(rand.NewSource(148))
	found := map[bool]int{}
	for range 3000 {
		tags := some(chance, list("a b c.d _e 1 A x"))
		var e [3]string
		var v [3]bool
		for i := range e {
			e[i] = "(" + drawExpr(chance, chance.Intn(4)) + ")"
			v[i] = truth(t, e[i], tags)
			found[v[i]]++
		}
		for form, want := range map[string]bool{
			"!0": !v[0], "!!0": v[0], "!!!0": !v[0],
			"0&&1": v[0] && v[1], "1&&0": v[0] && v[1], "0||1": v[0] || v[1], "1||0": v[0] || v[1],
			"0&&1&&2": v[0] && v[1] && v[2], "0&&(1&&2)": v[0] && v[1] && v[2], "(0&&1)&&2": v[0] && v[1] && v[2], "2&&0&&1": v[0] && v[1] && v[2],
			"0||1||2": v[0] || v[1] || v[2], "0||(1||2)": v[0] || v[1] || v[2], "(0||1)||2": v[0] || v[1] || v[2], "2||0||1": v[0] || v[1] || v[2],
			"0&&(1||2)": v[0] && v[1] || v[0] && v[2], "0&&1||0&&2": v[0] && (v[1] || v[2]), "0||1&&2": (v[0] || v[1]) && (v[0] || v[2]), "(0||1)&&(0||2)": v[0] || v[1] && v[2],
			"!(0&&1)": !v[0] || !v[1], "!0||!1": !(v[0] && v[1]), "!(0||1)": !v[0] && !v[1], "!0&&!1": !(v[0] || v[1]),
			"0&&0": v[0], "0||0": v[0], "0&&!0": false, "0||!0": true, "0&&(0||1)": v[0], "0||0&&1": v[0], "!0||0": true,
			"0&&1||2": v[0] && v[1] || v[2], "!0&&1": !v[0] && v[1], "!0||1&&!2": !v[0] || v[1] && !v[2],
		} {
			evals(t, strings.NewReplacer("0", e[0], "1", e[1], "2", e[2]).Replace(form), tags, want)
		}
	}
	is(t, fmt.Sprint("whether there were enough: ", found), min(found[true], found[false]) > 2000, true)
}

// A tag more or less changes only what speaks of it; their order changes nothing.
func TestP14_8_TagsMoreOrLess(t *testing.T) {
	chance := rand.New(rand.NewSource(841))
	all := list("a b c.d _e 1 A")
	changed := 0
	for range 6000 {
		expr := drawExpr(chance, chance.Intn(5))
		spoken := tagForm.FindAllString(expr, -1)
		tags := some(chance, all)
		was := truth(t, expr, tags)
		for _, tag := range append(slices.Clone(all), "x", "", "a.b", "c", "d", "e", "_", "aa", "!", "a b", "true") {
			with, without := append(slices.Clone(tags), tag), slices.DeleteFunc(slices.Clone(tags), func(s string) bool { return s == tag })
			switch {
			case !slices.Contains(spoken, tag):
				evals(t, expr, with, was)
				evals(t, expr, without, was)
			case truth(t, expr, with) != truth(t, expr, without):
				changed++
			}
		}
		only := slices.DeleteFunc(slices.Clone(tags), func(s string) bool { return !slices.Contains(spoken, s) })
		evals(t, expr, only, was)
		evals(t, expr, shuffled(chance, tags), was)
		evals(t, expr, shuffled(chance, append(tags, some(chance, tags)...)), was)
	}
	is(t, "whether there were enough that it changed", changed > 3000, true)
}

// leads tells whether a module may be a path's.
func leads(module, path string) bool { return path == module || strings.HasPrefix(path, module+"/") }

func TestP14_9_TheNearest(t *testing.T) {
	chance := rand.New(rand.NewSource(149))
	found := 0
	for range 20000 {
		path, mods := drawModules(chance)
		_, more := drawModules(chance)
		more = append(more, path[:chance.Intn(len(path)+1)])
		got, e := scan.Provider(path, mods)
		for _, m := range mods {
			if leads(m, path) {
				is(t, fmt.Sprintf("the error of Provider(%q, %q)", path, mods), e, api.OK)
				is(t, fmt.Sprintf("whether of %q one longer than %q would do for %q", mods, got, path), len(m) > len(got), false)
			}
		}
		again, againE := scan.Provider(path, shuffled(chance, append(slices.Clone(mods), mods...)))
		is(t, "Provider, in another order", fmt.Sprint(again, againE), fmt.Sprint(got, e))
		if e != api.OK {
			continue
		}
		found++
		is(t, fmt.Sprintf("whether %q is one of %q", got, mods), slices.Contains(mods, got), true)
		is(t, fmt.Sprintf("whether %q would do for %q", got, path), leads(got, path), true)
		longer, longerE := scan.Provider(path, shuffled(chance, slices.Concat(mods, more)))
		is(t, "the error, with more of them", longerE, api.OK)
		is(t, fmt.Sprintf("whether %q is shorter than %q, with more of them", longer, got), len(longer) < len(got), false)
	}
	is(t, "whether there were enough", found > 3000, true)
}
