package modfile_test

import (
	"fmt"
	"slices"
	"strings"
	"testing"

	"mews/api"
	"mews/mod"
	"mews/modfile"
)

const exampleText = `module a.b/c // mine
go 1.17
require x.y/z v1.2.0 // indirect
require (
	a.b/d v0.1.0

)
replace x.y/z => x.w/z v1.3.0
retract [v1.0.0, v1.1.0]
`

const exampleForm = `module a.b/c

go 1.17

require (
	a.b/d v0.1.0
	x.y/z v1.2.0 // indirect
)

replace (
	x.y/z => x.w/z v1.3.0
)

retract (
	[v1.0.0, v1.1.0]
)
`

// example is the manifest of the chapter's example.
func example() modfile.File {
	return modfile.File{
		Module: "a.b/c", Go: "1.17",
		Require: each(need, "a.b/d v0.1.0", "x.y/z v1.2.0 indirect"),
		Replace: each(swap, "x.y/z => x.w/z v1.3.0"),
		Retract: each(span, "v1.0.0 v1.1.0"),
	}
}

func TestExamples(t *testing.T) {
	parses(t, exampleText, example())
	parses(t, exampleForm, example())
	form, e := modfile.Format(example())
	is(t, "Format", form, exampleForm)
	is(t, "Format's error", e, api.OK)
	refuses(t, "", 0, api.ErrNone)
	refuses(t, "module a.b/c\nmodule a.b/c", 2, api.ErrTwice)
	refuses(t, "module a.b/c\nrequire x.y/z v2.0.0", 2, api.ErrMajor)
	refuses(t, "module a.b/c\nrequire (", 3, api.ErrSyntax)
	refuses(t, "module a.b/c\nrequire a.b/c v1.0.0", 0, api.ErrTwice)
	refuses(t, "module ab", 1, api.ErrPath)
	refuses(t, "go 1.017", 1, api.ErrSyntax)
	is(t, "Replaced", modfile.Replaced(example(), module("x.y/z v1.2.0")), module("x.w/z v1.3.0"))
	is(t, "Pruned", modfile.Pruned(example()), true)
	version, ok := modfile.Version(example(), "a.b/d")
	is(t, "Version", fmt.Sprint(version, ok), "v0.1.0true")
}

func TestP4_2_Statements(t *testing.T) {
	for text, want := range map[string]modfile.File{
		"module a.b/c":                                       {Module: "a.b/c"},
		"module a.b\ngo 1.0":                                 {Module: "a.b", Go: "1.0"},
		"go 1.999\nmodule a.b":                               {Module: "a.b", Go: "1.999"},
		"module a.b\nrequire x.y v1.0.0":                     {Module: "a.b", Require: each(need, "x.y v1.0.0")},
		"module a.b\nexclude x.y v1.0.0":                     {Module: "a.b", Exclude: each(module, "x.y v1.0.0")},
		"module a.b\nexclude a.b v1.0.0":                     {Module: "a.b", Exclude: each(module, "a.b v1.0.0")},
		"module a.b\nreplace x.y => x.z v1.0.0":              {Module: "a.b", Replace: each(swap, "x.y => x.z v1.0.0")},
		"module a.b\nreplace x.y v1.1.0 => x.z v1.0.0":       {Module: "a.b", Replace: each(swap, "x.y v1.1.0 => x.z v1.0.0")},
		"module a.b\nretract v1.0.0":                         {Module: "a.b", Retract: each(span, "v1.0.0 v1.0.0")},
		"module a.b\nretract [v1.0.0, v1.1.0]":               {Module: "a.b", Retract: each(span, "v1.0.0 v1.1.0")},
		"module a.b\nretract [v1.0.0, v1.0.0]":               {Module: "a.b", Retract: each(span, "v1.0.0 v1.0.0")},
		"module a.b\nrequire x.y v1.0.0\nexclude x.y v1.0.0": {Module: "a.b", Require: each(need, "x.y v1.0.0"), Exclude: each(module, "x.y v1.0.0")},
		// What a block takes is what a line takes.
		"module a.b\nrequire (\nx.y v1.0.0\nx.z v1.0.0 // indirect\n)":          {Module: "a.b", Require: each(need, "x.y v1.0.0", "x.z v1.0.0 indirect")},
		"module a.b\nexclude (\nx.y v1.0.0\nx.y v1.1.0\n)":                      {Module: "a.b", Exclude: each(module, "x.y v1.0.0", "x.y v1.1.0")},
		"module a.b\nreplace (\nx.y => x.z v1.0.0\nx.y v1.1.0 => z.z v1.0.0\n)": {Module: "a.b", Replace: each(swap, "x.y => x.z v1.0.0", "x.y v1.1.0 => z.z v1.0.0")},
		"module a.b\nretract (\nv1.0.0\n[v1.0.0, v1.1.0]\n)":                    {Module: "a.b", Retract: each(span, "v1.0.0 v1.0.0", "v1.0.0 v1.1.0")},
		// Several blocks of a word, empty ones, lines between, module behind.
		"require (\n)\nrequire (\nx.y v1.0.0\n)\nrequire x.z v1.0.0\nrequire(\nx.w v1.0.0\n)\nmodule a.b": {Module: "a.b", Require: each(need, "x.w v1.0.0", "x.y v1.0.0", "x.z v1.0.0")},
		"module a.b\nexclude (\n)\nreplace (\n\n)\nretract (\n\n\n)":                                      {Module: "a.b"},
		// A statement's word is a word like others where it stands as one.
		"module module.go\nrequire (\nrequire.x v1.0.0\n)": {Module: "module.go", Require: each(need, "require.x v1.0.0")},
	} {
		parses(t, text, want)
		parses(t, text+"\n", want)
		parses(t, "\n"+text+"\n\n", want)
	}
}

func TestP4_2_NoStatements(t *testing.T) {
	for _, line := range []string{
		"module", "go", "require", "exclude", "replace", "retract",
		"module a.b c.d", "module (", "module()", "module ( a.b )", "module =>", "module => a.b", "module [a.b]", "module a.b,", "module, a.b", "module a.b (", "module a.b =>", "modulea.b", "Module a.b", "MODULE a.b", "module=> a.b",
		"go (", "go 1.1 1.2", "go 1.1 v1.0.0", "go =>", "go [1.1, 1.2]", "go 1.1,", "go1.1", "go 1 .1", "go 1. 1", "Go 1.1",
		"go 1.1000", "go 1.00", "go 1.01", "go 1.", "go 1", "go 1.-1", "go 1.+1", "go 2.0", "go 01.1", "go 1.1.1", "go 1.a", "go 1.18446744073709551617", "go v1.1",
		"require x.y", "require x.y v1.0.0 v1.0.0", "require x.y, v1.0.0", "require => v1.0.0", "require x.y =>", "require x.y => x.z v1.0.0", "require [x.y, v1.0.0]", "require (x.y v1.0.0)", "require ( x.y v1.0.0", "require x.y v1.0.0 )", "require x.y v1.0.0 (", "require ((", "require ()", "require ( )", "require )", "require [", "require => (", "(require", "( require (", "requirex.y v1.0.0", "x.y v1.0.0", "require require x.y v1.0.0",
		"exclude x.y", "exclude x.y v1.0.0 v1.0.0", "exclude v1.0.0", "exclude x.y => v1.0.0", "exclude [v1.0.0, v1.0.0]", "exclude ( x.y v1.0.0 )", "exclude ()",
		"replace x.y", "replace x.y x.z", "replace x.y =>", "replace x.y => x.z", "replace => x.z v1.0.0", "replace x.y v1.0.0 x.z v1.0.0", "replace x.y v1.0.0 => x.z", "replace x.y v1.0.0 =>", "replace x.y => => x.z v1.0.0", "replace x.y => x.z =>", "replace x.y => x.z v1.0.0 v1.0.0", "replace x.y v1.0.0 v1.0.0 => x.z v1.0.0", "replace x.y=>x.z v1.0.0", "replace x.y =>x.z v1.0.0", "replace x.y= > x.z v1.0.0", "replace x.y = > x.z v1.0.0", "replace x.y =>=> x.z v1.0.0", "replace =>", "replace x.y => x.z v1.0.0 => x.w v1.0.0", "replace ( x.y => x.z v1.0.0 )", "replace => => x.z v1.0.0",
		"retract v1.0.0 v1.1.0", "retract v1.0.0, v1.1.0", "retract [v1.0.0]", "retract [v1.0.0 v1.1.0]", "retract [v1.0.0, v1.1.0", "retract v1.0.0, v1.1.0]", "retract [v1.0.0,, v1.1.0]", "retract [, v1.1.0]", "retract [v1.0.0, ]", "retract []", "retract [,]", "retract [v1.0.0, v1.1.0] v1.2.0", "retract [v1.0.0, v1.1.0,]", "retract [v1.0.0, v1.1.0, v1.2.0]", "retract (v1.0.0, v1.1.0)", "retract [[v1.0.0, v1.1.0]]", "retract [v1.0.0 => v1.1.0]", "retract [=>, v1.0.0]", "retract [v1.0.0, =>]", "retract =>", "retract ]v1.0.0, v1.1.0[", "retract [v1.0.0, v1.1.0)", "retract ( v1.0.0 )",
		"(", ")", "[", "]", ",", "=>", "what", "what a.b", "what (", "a.b", "v1.0.0", "1.1", ") require (", "=> require x.y v1.0.0",
	} {
		refuses(t, line, 1, api.ErrSyntax)
		refuses(t, line+"\nmodule a.b\n", 1, api.ErrSyntax)
		refuses(t, "module a.b\n\n"+line+" // "+line, 3, api.ErrSyntax)
	}
}

func TestP4_2_NoLinesOfBlocks(t *testing.T) {
	for word, inner := range map[string][]string{
		"require": {"require x.y v1.0.0", "require (", "(", "))", ") )", ") x.y v1.0.0", "x.y v1.0.0 )", "(x.y v1.0.0)", "x.y", "x.y => x.z v1.0.0", "[v1.0.0, v1.0.0]", "=> v1.0.0", "x.y, v1.0.0", "]", ",", "module (", "retract (", ") require ("},
		"exclude": {"exclude x.y v1.0.0", "exclude (", "(", "))", "x.y v1.0.0 )", "x.y", "x.y v1.0.0 v1.0.0", "x.y =>"},
		"replace": {"replace x.y v1.0.0 => x.z v1.0.0", "replace (", "(", "))", "x.y => x.z", "x.y", "x.y v1.0.0", "=> x.z v1.0.0", "x.y => x.z v1.0.0 )", "x.y=>x.z v1.0.0"},
		"retract": {"retract v1.0.0", "retract (", "retract [v1.0.0, v1.0.0]", "(", "))", "[v1.0.0]", "v1.0.0 v1.0.0", "[v1.0.0, v1.0.0] )", "=>", "[v1.0.0", "v1.0.0,"},
	} {
		for _, line := range inner {
			refuses(t, lines("module a.b", word+" (", line, ")"), 3, api.ErrSyntax)
			refuses(t, lines("module a.b", word+" (", "", line), 4, api.ErrSyntax)
		}
		refuses(t, lines("module a.b", word+" (", ")", ")"), 4, api.ErrSyntax)
	}
	// In a block each word is one of a statement without its word.
	refuses(t, lines("require (", "module a.b", ")"), 2, api.ErrPath)
	refuses(t, lines("require (", "x.y/go 1.17", ")"), 2, api.ErrVersion)
	refuses(t, lines("replace (", "replace x.y => x.z v1.0.0", ")"), 2, api.ErrPath)
	refuses(t, lines("retract (", "module", ")"), 2, api.ErrVersion)
}

func TestP4_2_OpenBlocks(t *testing.T) {
	for _, word := range []string{"require", "exclude", "replace", "retract"} {
		refuses(t, word+" (", 2, api.ErrSyntax)
		refuses(t, word+" (\n", 2, api.ErrSyntax)
		refuses(t, word+" (\n\n", 3, api.ErrSyntax)
		refuses(t, word+" (\n// )", 3, api.ErrSyntax)
		refuses(t, "module a.b\n"+word+"(// )\n\n\n", 5, api.ErrSyntax)
		refuses(t, "module a.b\n"+word+" (\n)\n"+word+" (", 5, api.ErrSyntax)
	}
	// Ahead of what else only the whole text tells.
	refuses(t, "require (\nx.y v1.0.0", 3, api.ErrSyntax)
	refuses(t, "module x.y\nrequire (\nx.y v1.0.0\n", 4, api.ErrSyntax)
}

func TestP4_2_BehindTheLastLine(t *testing.T) {
	for _, text := range []string{"", "\n", "\n\n\n", "// module a.b", "//", " \t", "go 1.17\n", "require x.y v1.0.0", "require (\n)\n"} {
		refuses(t, text, 0, api.ErrNone)
	}
	refuses(t, "require a.b v1.0.0\nmodule a.b", 0, api.ErrTwice)
	refuses(t, "require x.y v1.0.0\nrequire a.b v1.0.0\nmodule a.b\nrequire x.z v1.0.0", 0, api.ErrTwice)
	refuses(t, "module a.b\nrequire (\na.b v1.0.0 // indirect\n)\n", 0, api.ErrTwice)
	// Each line is ahead of that.
	refuses(t, "module a.b\nrequire a.b v1.0.0\nwhat", 3, api.ErrSyntax)
	refuses(t, "module a.b\nrequire a.b v1.0.0\nrequire a.b v1.0.0", 3, api.ErrTwice)
	refuses(t, "module a.b\nrequire a.b v2.0.0", 2, api.ErrMajor)
}

func TestP4_2_Twice(t *testing.T) {
	refuses(t, "module a.b\nmodule a.c", 2, api.ErrTwice)
	refuses(t, "module a.b\n\ngo 1.1\nmodule a.b", 4, api.ErrTwice)
	refuses(t, "go 1.1\ngo 1.2", 2, api.ErrTwice)
	refuses(t, "go 1.0\nmodule a.b\ngo 1.0\n", 3, api.ErrTwice)
	// Twice is ahead of the path, and behind the form.
	refuses(t, "module a.b\nmodule ab", 2, api.ErrTwice)
	refuses(t, "module a.b\nmodule a.b/v1", 2, api.ErrTwice)
	refuses(t, "module a.b\nmodule a.b c", 2, api.ErrSyntax)
	refuses(t, "module a.b\nmodule", 2, api.ErrSyntax)
	refuses(t, "go 1.1\ngo 1.01", 2, api.ErrSyntax)
	refuses(t, "go 1.1\ngo 2", 2, api.ErrSyntax)
	refuses(t, "go 1.1\ngo", 2, api.ErrSyntax)
}

func TestP4_2_ErrorsOfStatements(t *testing.T) {
	for line, want := range map[string]api.Errno{
		"module ab": api.ErrPath, "module a.b/v1": api.ErrMajor, "module " + longPath[:101]: api.ErrLong, "module a.b=>c": api.ErrPath, "module a.b/": api.ErrPath, "module `a.b`": api.ErrPath, "module 'a.b'": api.ErrPath,
		"require xy v1.0.0": api.ErrPath, "require x.y v1": api.ErrVersion, "require x.y v2.0.0": api.ErrMajor, "require " + longPath[:101] + " v1.0.0": api.ErrLong, "require xy v1": api.ErrPath, "require x.y/v1 v1": api.ErrMajor, "require x.y =>v1.0.0": api.ErrVersion,
		"exclude xy v1.0.0": api.ErrPath, "exclude x.y v1": api.ErrVersion, "exclude x.y v2.0.0": api.ErrMajor, "exclude " + longPath[:101] + " v1.0.0": api.ErrLong,
		"replace xy => x.z v1.0.0": api.ErrPath, "replace x.y v1 => x.z v1.0.0": api.ErrVersion, "replace x.y v2.0.0 => x.z v1.0.0": api.ErrMajor, "replace x.y => xz v1.0.0": api.ErrPath, "replace x.y => x.z v1": api.ErrVersion, "replace x.y => x.z v2.0.0": api.ErrMajor, "replace x.y v1 => xz v2.0.0": api.ErrVersion, "replace =>x => x.z v1.0.0": api.ErrPath,
		"retract v1": api.ErrVersion, "retract [v1, v1.0.0]": api.ErrVersion, "retract [v1.0.0, v1]": api.ErrVersion, "retract [v1.1.0, v1.0.0]": api.ErrRange, "retract [v1.1.0, x]": api.ErrVersion, "retract x.y=>z": api.ErrVersion, "retract =>=>": api.ErrVersion, "retract =": api.ErrVersion, "retract >": api.ErrVersion, "retract =>>": api.ErrVersion,
	} {
		refuses(t, line, 1, want)
		refuses(t, "// first\n\t"+line+"\nwhat", 2, want)
		if word, rest, _ := strings.Cut(line, " "); word != "module" {
			refuses(t, lines(word+"(", "", rest, "what is this ?"), 3, want)
		}
	}
}

func TestP4_2_TwiceInLists(t *testing.T) {
	for word, pairs := range map[string][][2]string{
		"require": {{"x.y v1.0.0", "x.y v1.0.0"}, {"x.y v1.0.0", "x.y v1.1.0"}, {"x.y v1.0.0", "x.y v1.0.0 // indirect"}},
		"exclude": {{"x.y v1.0.0", "x.y v1.0.0"}},
		"replace": {{"x.y => x.z v1.0.0", "x.y => x.w v1.0.0"}, {"x.y v1.0.0 => x.z v1.0.0", "x.y v1.0.0 => x.z v1.0.0"}},
		"retract": {{"v1.0.0", "v1.0.0"}, {"[v1.0.0, v1.1.0]", "[v1.0.0, v1.1.0]"}, {"v1.0.0", "[v1.0.0, v1.0.0]"}},
	} {
		for _, pair := range pairs {
			refuses(t, lines("module a.b", word+" "+pair[0], "go 1.1", word+" "+pair[1], "what"), 4, api.ErrTwice)
			refuses(t, lines(word+" (", pair[0], pair[1], ")"), 3, api.ErrTwice)
			refuses(t, lines(word+" (", pair[0], ")", word+" "+pair[1]), 4, api.ErrTwice)
		}
	}
	// The statement's own fault is ahead of it.
	refuses(t, lines("require x.y v1.0.0", "require x.y v1"), 2, api.ErrVersion)
	refuses(t, lines("replace x.y => x.z v1.0.0", "replace x.y => x.z v2.0.0"), 2, api.ErrMajor)
}

func TestP4_2_Many(t *testing.T) {
	most := full(api.MaxMods)
	for word, form := range map[string]string{
		"require": "x.y/%d v1.0.0", "exclude": "x.y v1.%d.0", "replace": "x.y/%d => x.z v1.0.0", "retract": "[v1.%d.0, v1.%d.9]",
	} {
		all := numbered(form, api.MaxMods)
		if f, _, e := modfile.Parse(lines("module a.b", word+" (", strings.Join(all, "\n"), ")")); e != api.OK ||
			!slices.Contains([]int{len(f.Require), len(f.Exclude), len(f.Replace), len(f.Retract)}, api.MaxMods) {
			t.Errorf("%d of %s: %d", api.MaxMods, word, e)
		}
		next := numbered(form, api.MaxMods+1)[api.MaxMods]
		// Half of them in lines of their own, ahead of the block.
		half := word + " " + strings.Join(all[:100], "\n"+word+" ")
		text := lines(half, word+" (", strings.Join(all[100:], "\n"))
		refuses(t, text+next+"\n)\n", api.MaxMods+2, api.ErrMany)
		refuses(t, text+")\n"+word+" "+next, api.MaxMods+3, api.ErrMany)
		// Ahead of what is at fault with it, but not of its form.
		refuses(t, text+all[0], api.MaxMods+2, api.ErrMany)
		wrong := strings.NewReplacer("x.y", "xy", "v1.", "v1").Replace(all[0])
		refuses(t, text+wrong, api.MaxMods+2, api.ErrMany)
		refuses(t, text+next+" =>", api.MaxMods+2, api.ErrSyntax)
		refuses(t, text+next+" // \n", api.MaxMods+2, api.ErrMany)
	}
	text, _ := modfile.Format(most)
	parses(t, text, modfile.Canon(most))
}

func TestP4_2_LongTexts(t *testing.T) {
	for _, head := range []string{"module a.b\n", "//", "what"} {
		refuses(t, head+strings.Repeat("\n", api.MaxText+1-len(head)), 0, api.ErrLong)
		refuses(t, head+strings.Repeat(" ", api.MaxText+1-len(head)), 0, api.ErrLong)
	}
	parses(t, "module a.b\n"+strings.Repeat("\n", api.MaxText-len("module a.b\n")), modfile.File{Module: "a.b"})
	parses(t, strings.Repeat("\n", api.MaxText-len("module a.b"))+"module a.b", modfile.File{Module: "a.b"})
	refuses(t, strings.Repeat("\n", api.MaxText), 0, api.ErrNone)
	refuses(t, strings.Repeat("\n", api.MaxText-1)+"x", api.MaxText, api.ErrSyntax)
	refuses(t, "require (\n"+strings.Repeat("\n", api.MaxText-len("require (\n")), api.MaxText-len("require (\n")+2, api.ErrSyntax)
}

func TestP4_2_LongLines(t *testing.T) {
	filled := func(head, with string, length int) string {
		return head + strings.Repeat(with, length-len(head))
	}
	for _, with := range []string{" ", "\t", "/", "\x00", "\xff"} {
		head := "module a.b //"
		if with == " " || with == "\t" {
			head = "module a.b"
		}
		parses(t, filled(head, with, api.MaxLine), modfile.File{Module: "a.b"})
		parses(t, filled(head, with, api.MaxLine)+"\n", modfile.File{Module: "a.b"})
		refuses(t, filled(head, with, api.MaxLine+1), 1, api.ErrLong)
		refuses(t, filled(head, with, api.MaxLine+1)+"\n", 1, api.ErrLong)
		refuses(t, "\n\n"+filled(head, with, api.MaxLine+1)+"\nwhat", 3, api.ErrLong)
	}
	// Ahead of what the line says; a line ahead of it is ahead.
	refuses(t, filled("\x00", "x", api.MaxLine+1), 1, api.ErrLong)
	refuses(t, filled("\x00", "x", api.MaxLine), 1, api.ErrSyntax)
	refuses(t, filled("module a.b\nmodule ", "x", api.MaxLine+len("module a.b\n")+1), 2, api.ErrLong)
	refuses(t, filled("module ", "x", api.MaxLine), 1, api.ErrLong)
	refuses(t, filled("retract ", "x", api.MaxLine), 1, api.ErrVersion)
	refuses(t, "what\n"+filled("//", " ", api.MaxLine+1), 1, api.ErrSyntax)
	refuses(t, "require (\n"+filled("//", " ", api.MaxLine+1), 2, api.ErrLong)
}

func TestP4_2_BlanksTabsComments(t *testing.T) {
	for _, text := range []string{
		"module a.b/c//mine\ngo 1.17//\nrequire x.y/z v1.2.0//indirect\nrequire(\na.b/d v0.1.0//x\n)//\nreplace x.y/z => x.w/z v1.3.0//=>\nretract[v1.0.0,v1.1.0]//\"",
		"\t module\ta.b/c \t\n \tgo\t \t1.17\t// go 1.18\n  require \t x.y/z \tv1.2.0\t //\t indirect \t\nrequire  (  // (\n\t\ta.b/d\tv0.1.0 //indirect x\n\t)\t// )\n replace\tx.y/z\t=>\tx.w/z\tv1.3.0\t\nretract [ v1.0.0 , v1.1.0 ] ",
		"// a\n\n \t// b\nretract (\n// c\n[v1.0.0\t,\tv1.1.0] // d\n\t// )\n)\n// module x.y\nmodule a.b/c ////\nreplace(\n\n\nx.y/z => x.w/z v1.3.0\n)\nrequire (\nx.y/z v1.2.0 //   indirect\na.b/d v0.1.0 // // indirect\n)\ngo 1.17\n\n\n",
	} {
		parses(t, text, example())
	}
	// What a comment holds is in no word.
	parses(t, "module a.b//c", modfile.File{Module: "a.b"})
	parses(t, "module a.b///c", modfile.File{Module: "a.b"})
	refuses(t, "module //a.b", 1, api.ErrSyntax)
	refuses(t, "module// a.b", 1, api.ErrSyntax)
	refuses(t, "module a.b\nreplace x.y => x.z//v1.0.0", 2, api.ErrSyntax)
	refuses(t, "module a.b/ /c", 1, api.ErrSyntax)
	parses(t, "//module a.b\n/// go 1.1\nmodule a.b", modfile.File{Module: "a.b"})
	refuses(t, "/", 1, api.ErrSyntax)
	refuses(t, "/ /", 1, api.ErrSyntax)
}

func TestP4_2_Indirect(t *testing.T) {
	for comment, want := range map[string]bool{
		"": false, "//": false, "// ": false,
		"//indirect": true, "// indirect": true, "//\tindirect\t": true, "// \t \tindirect \t ": true,
		"// Indirect": false, "// indirectly": false, "// in direct": false, "// indirect.": false, "// indirect;": false, "// not indirect": false, "// indirect // indirect": false, "/// indirect": false, "// // indirect": false, "//indirect//": false, "// indirect\r": false, "// \vindirect": false, "// \u00a0indirect": false,
	} {
		said := modfile.File{Module: "a.b", Require: []modfile.Require{{Path: "x.y", Version: "v1.0.0", Indirect: want}}}
		parses(t, lines("module a.b", "require x.y v1.0.0 "+comment), said)
		parses(t, lines("module a.b", "require x.y v1.0.0"+comment), said)
		parses(t, lines("module a.b", "require (", "x.y v1.0.0 "+comment, ")"), said)
	}
	// The comment of another line, or of another statement, says nothing.
	plain := modfile.File{Module: "a.b", Go: "1.1",
		Require: each(need, "x.y v1.0.0"), Exclude: each(module, "x.y v1.0.0"), Replace: each(swap, "x.y => x.z v1.0.0"), Retract: each(span, "v1.0.0 v1.0.0")}
	parses(t, lines("// indirect", "module a.b // indirect", "go 1.1 // indirect", "require ( // indirect", "// indirect", "x.y v1.0.0", ") // indirect", "// indirect",
		"exclude x.y v1.0.0 // indirect", "replace x.y => x.z v1.0.0 // indirect", "retract v1.0.0 // indirect"), plain)
}

func TestP4_2_EachByte(t *testing.T) {
	for c := range 256 {
		if c == '\n' {
			continue
		}
		b := string([]byte{byte(c)})
		blank := c == ' ' || c == '\t'
		word := c >= 0x21 && c <= 0x7e && !strings.ContainsAny(b, `()[],"`)
		// In a comment.
		parses(t, "module a.b // "+b+"\n//"+b, modfile.File{Module: "a.b"})
		parses(t, "module a.b\nrequire x.y v1.0.0 // "+b+"indirect"+b, modfile.File{Module: "a.b", Require: []modfile.Require{{Path: "x.y", Version: "v1.0.0", Indirect: blank}}})
		// Alone, ahead of a word, in it, behind it.
		if blank {
			refuses(t, b, 0, api.ErrNone)
			parses(t, b+"module"+b+"a.b"+b, modfile.File{Module: "a.b"})
			parses(t, "module a.b"+b+"//\""+b, modfile.File{Module: "a.b"})
		} else {
			refuses(t, b, 1, api.ErrSyntax)
			refuses(t, b+"module a.b", 1, api.ErrSyntax)
			refuses(t, "module"+b+" a.b", 1, api.ErrSyntax)
			refuses(t, "module"+b+"a.b", 1, api.ErrSyntax)
			refuses(t, "module a.b\n\n"+b+" // x", 3, api.ErrSyntax)
			refuses(t, "require (\nx.y"+b+" // x", 2, api.ErrSyntax)
		}
		if want := api.ErrVersion; word {
			refuses(t, "retract x"+b, 1, want)
			refuses(t, "retract "+b, 1, want)
			refuses(t, "retract x"+b+"y", 1, want)
		} else if !blank {
			refuses(t, "retract x"+b, 1, api.ErrSyntax)
			refuses(t, "retract x"+b+"y", 1, api.ErrSyntax)
		}
		if e := mod.CheckPath("a.b" + b + "c"); word && e == api.OK {
			parses(t, "module a.b"+b+"c", modfile.File{Module: "a.b" + b + "c"})
		} else if word {
			refuses(t, "module a.b"+b+"c", 1, e)
		} else {
			refuses(t, "module a.b"+b+"c", 1, api.ErrSyntax)
		}
	}
	refuses(t, "module a.b\r\n", 1, api.ErrSyntax)
	refuses(t, "module a.b\n\xef\xbb\xbf", 2, api.ErrSyntax)
	refuses(t, "module a.b\u00a0", 1, api.ErrSyntax)
	refuses(t, "module \"a.b\"", 1, api.ErrSyntax)
	// A byte is ahead of what the tokens ahead of it say.
	refuses(t, "module ab \x01", 1, api.ErrSyntax)
	refuses(t, "module a.b\nmodule a.b \x7f", 2, api.ErrSyntax)
	refuses(t, "module a.b\nretract (\nv1 \"", 3, api.ErrSyntax)
}

func TestP4_2_TheFirstFault(t *testing.T) {
	faults := []struct {
		line string
		e    api.Errno
	}{
		{"what", api.ErrSyntax}, {"require x.y v1", api.ErrVersion}, {"require xy v1.0.0", api.ErrPath}, {"retract [v1.1.0, v1.0.0]", api.ErrRange},
		{"//" + strings.Repeat(" ", api.MaxLine), api.ErrLong}, {"exclude x.y v2.0.0", api.ErrMajor}, {"go 1.2", api.ErrTwice},
	}
	for _, first := range faults {
		for _, second := range faults {
			refuses(t, lines("go 1.1", "", first.line, second.line), 3, first.e)
			refuses(t, lines("module a.b", "go 1.1", first.line, "require (", second.line), 3, first.e)
		}
	}
}
