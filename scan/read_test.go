package scan_test

import (
	"strings"
	"testing"

	"mews/api"
	"mews/scan"
)

func TestP14_1_Clauses(t *testing.T) {
	for src, name := range map[string]string{
		"package a":                          "a",
		"package a\n":                        "a",
		"package a;":                         "a",
		";package a;;\n;":                    "a",
		"\n\n;\n;package a":                  "a",
		" \t\r\npackage \t\ra \t\r":          "a",
		"package/**/a":                       "a",
		"package/*b*/a/*c*/":                 "a",
		"/**/package a":                      "a",
		"/*\n*/package a/*\n*/":              "a",
		"//\npackage a//":                    "a",
		"// package b\npackage a // b":       "a",
		"/* package b */ package a":          "a",
		"/***/package/****/a/*//*/":          "a",
		"/*/*/package a":                     "a",
		"/* // */ package a":                 "a",
		"// /*\npackage a // /*":             "a",
		"//\"\npackage a //\"":               "a",
		"/*\"`*/package a/*`*/":              "a",
		"//\x00\xff?\npackage a/*\x00\xff*/": "a",
		"package _":                          "_",
		"package a1_B":                       "a1_B",
		"package _1":                         "_1",
		"package ABCXYZabcxyz0189_":          "ABCXYZabcxyz0189_",
		"package package":                    "package",
		"package import":                     "import",
		"package Package":                    "Package",
		"package \x80":                       "\x80",
		"package \xff":                       "\xff",
		"package a\x80\xbf\xff1":             "a\x80\xbf\xff1",
		"package é;":                         "é",
		"package 世界":                         "世界",
		"package a\u00a0":                    "a\u00a0", // to readers a blank
	} {
		reads(t, src, source(name))
	}
}

func TestP14_1_Specs(t *testing.T) {
	for decl, imports := range map[string]string{
		`import "b"`:                  "b",
		"import `b`":                  "b",
		`import"b"`:                   "b",
		"import`b`;":                  "b",
		`import x "b"`:                "b",
		`import x"b"`:                 "b",
		`import . "b"`:                "b",
		`import."b"`:                  "b",
		`import _ "b"`:                "b",
		`import import "b"`:           "b",
		`import package "b"`:          "b",
		"import \xff1 \"b\"":          "b",
		`import é"b"`:                 "b",
		`import/**/x/*c*/"b"/**/`:     "b",
		"import\t\r x \t\r\"b\"\t\r ": "b",
		`import "b" // "c"`:           "b",
		"import \"b\" /*\n\"c\"*/":    "b",
		`import "b/c.d/e~f_g-h+1"`:    "b/c.d/e~f_g-h+1",
		`import "C"`:                  "C",
		`import "a.b/v1"`:             "a.b/v1",
		`import "0"`:                  "0",
		`import ()`:                   "",
		`import()`:                    "",
		`import(;)`:                   "",
		"import (\n)":                 "",
		"import (\n\n;;//\n/*\n*/)":   "",
		`import ("b")`:                "b",
		`import("b";)`:                "b",
		`import ( x "b" )`:            "b",
		`import ( . "b" )`:            "b",
		`import (."b";_"c";x"d")`:     "b c d",
		`import ("d";"c";"b")`:        "b c d",
		"import (\n\"b\"\n)":          "b",
		"import (\n\t\"b\"\n\tx \"c\"\n\n\t// d\n\t. \"d\" // e\n\t_ `e` /* f */\n)": "b c d e",
		"import (\"b\" /*\n*/ \"c\")":                             "b c",
		"import (\"b\" //\n\"c\")":                                "b c",
		"import (;;\"b\";;\"c\";;)":                               "b c",
		"import (import \"b\";package \"c\")":                     "b c",
		"import (/**/x/**/\"b\"/**/)/**/":                         "b",
		"import /**/ ( /**/ ) //":                                 "",
		`import "b"; import "c"`:                                  "b c",
		`import "b";import "b"`:                                   "b",
		`import "b";import x "b";import . "b";import ("b";_ "b")`: "b",
		"import \"c\"\nimport (\"d\")\nimport ()\nimport \"b\"":   "b c d",
		"import \"b\" /*\n*/ import \"c\"":                        "b c",
		"import (\"b\")/*\n*/import \"c\"":                        "b c",
		"import \"b\"\n\n;\n// x\n/* y */ import \"c\"":           "b c",
	} {
		for _, head := range []string{"package a\n", "package a;", "package a /*\n*/ ", "\n\npackage a // b\n;;\n"} {
			for _, tail := range []string{"", "\n", ";", " ", "//", "/*\n*/", "\n\n;\n", "\nfunc", ";(", "\n5", "//\n\x00", "/*\n*/?", ";`x`", "\n\"x\"", ";/x"} {
				reads(t, head+decl+tail, source("a", list(imports)...))
			}
		}
	}
}

// Imports rise byte by byte, and stand there once.
func TestP14_1_ImportsInOrder(t *testing.T) {
	reads(t, lines("package a", `import ("b/c"; "b-c"; "b"; "B"; "b.c"; "b+c"; "b~c"; "b_c"; "b/C")`, `import ("fmt"; "B"; x "b"; "10"; "9")`),
		source("a", list("10 9 B b b+c b-c b.c b/C b/c b_c b~c fmt")...))
	var decl strings.Builder
	for range 2000 {
		decl.WriteString("import \"b\"\nimport x \"c\"\n")
	}
	reads(t, "package a\n"+decl.String(), source("a", "b", "c"))
}

// The first thing behind an end that is not `import` ends what is looked at.
func TestP14_1_TheRest(t *testing.T) {
	for _, rest := range []string{
		"x", "func f() {", "Import \"c\"", "imports \"c\"", "import1 \"c\"", "_import \"c\"", "import\x80 \"c\"", "package b", "package", "x import \"c\"", "x\nimport \"c\"", "x;import \"/c\"", "var x = \"", "x `", "x /*", "x \x00",
		"(", ")", ". \"c\"", "()", "(\nimport \"c\"\n)", ")\nimport (", ".\n`", "(/*", ")\"", "(//go:build (\n",
		"\"c\"", "`c`", "\"c\"\nimport \"d\"", "`\n`\nimport \"/\"", "\"\"", "``", "\"c\" \"", "`c` `", "\"c\"/*", "\"/c\"", "\"\\\"\"", "`\\`",
		"1", "0import \"c\"", "?", "{", "\x00", "\x7f", "'", "'\"", "\\", "/", "/ /*", "=", "#`", "!\"", "-", ",", "*/", "\v", "\f", "/\"",
	} {
		for _, front := range []string{"package a", `package a;import "b"`, `package a;import ("b")`} {
			want := source("a", "b")
			if front == "package a" {
				want = source("a")
			}
			for _, end := range []string{"\n", ";", "//\n", "/*\n*/", "\n \t;;/**/\n"} {
				reads(t, front+end+rest, want)
				reads(t, front+end+rest+"\n", want)
				reads(t, front+end+rest+" \n import /x", want)
			}
		}
	}
}

func TestP14_1_Constraints(t *testing.T) {
	for head, constraint := range map[string]string{
		"":                                     "",
		"//go:build x\n":                       "x",
		"//go:build x && y\n":                  "x && y",
		"//go:build  \t x&&!y \t\r\n":          "x&&!y",
		"//go:build \tx\n":                     "x",
		"//go:build x\r\n\r\n":                 "x",
		"//go:build \r\t x \r\r\n":             "x",
		"//go:build x\n\n// a comment\n":       "x",
		"// a comment\n\n//go:build x\n":       "x",
		"/* a comment */\n//go:build x\n":      "x",
		"/*\n*/\n//go:build x\n":               "x",
		";\n//go:build x\n;":                   "x",
		"\n\n//go:build x\n\n;\n":              "x",
		"//go:build (x  ||\ty)\n/* */":         "(x  ||\ty)",
		"//go:build x\n//\n// go:build y\n":    "x",
		"//go:build x\n //go:build y\n":        "x",
		"//go:build x\n//go:build\n":           "x",
		"//go:build x\n//go:buildy\n":          "x",
		"//go:build x\n///go:build y\n":        "x",
		"//go:build\n":                         "",
		"//go:build\tx\n":                      "",
		"//go:build\rx\n":                      "",
		"//go:buildx\n":                        "",
		"//go:build(\n":                        "",
		"// go:build x\n":                      "",
		"//  go:build x\n":                     "",
		"//Go:build x\n":                       "",
		"//go:Build x\n":                       "",
		"//go:builds x\n":                      "",
		"//+build x\n":                         "",
		"// +build x\n":                        "",
		"///go:build x\n":                      "",
		" //go:build x\n":                      "",
		"\t//go:build x\n":                     "",
		"\r//go:build x\n":                     "",
		";//go:build x\n":                      "",
		"/**///go:build x\n":                   "",
		"/*\n*///go:build x\n":                 "",
		"/*\n*/ //go:build (\n":                "",
		"/*\n//go:build (\n*/":                 "",
		"/*\n//go:build x\n//go:build y\n*/\n": "",
		"/*//go:build x*/":                     "",
		"////go:build x\n":                     "",
		"// //go:build (\n":                    "",
		"\r\n //go:build x\n":                  "",
	} {
		src := head + "package a"
		reads(t, src, constrained("a", constraint))
		reads(t, src+"\nimport \"b\"", scan.Source{Package: "a", Imports: []string{"b"}, Constraint: constraint})
		reads(t, src+" //go:build (\n//go:build (\n//go:build y\nfunc", constrained("a", constraint))
	}
}

// Behind the clause's first word a comment is no constraint.
func TestP14_1_CommentsThatAreNoConstraints(t *testing.T) {
	for _, c := range []string{"x", "(", "", "x y"} {
		comment := "//go:build " + c
		for _, src := range []string{
			lines("package a", comment),
			lines("package a "+comment, comment, comment),
			lines("package a", comment, comment),
			lines("package a", comment, `import "b"`, comment),
			lines("package a", "import (", comment, `"b"`, comment, comment, ")", comment),
			lines("package a", `import "b"`, comment, "x", comment),
		} {
			want := source("a")
			if strings.Contains(src, `"b"`) {
				want = source("a", "b")
			}
			reads(t, src, want)
			want.Constraint = "z"
			reads(t, lines("//go:build z", src), want)
		}
	}
}

// padded is a text of so many bytes: one of them again and again between two others.
func padded(head, with, tail string, size int) string {
	return head + strings.Repeat(with, size-len(head)-len(tail)) + tail
}

func TestP14_1_TextsAtTheBound(t *testing.T) {
	for _, size := range []int{api.MaxText - 1, api.MaxText} {
		reads(t, padded("package a\nvar ", "x", "", size), source("a"))
		reads(t, padded("package a\n?", "\"", "", size), source("a"))
		reads(t, padded("//", "x", "\npackage a", size), source("a"))
		reads(t, padded("/*", "*", "/package a", size), source("a"))
		reads(t, padded("", "\n", "package a", size), source("a"))
		reads(t, padded("package ", " ", "a", size), source("a"))
		reads(t, padded("package a;import (\"b\"", "\n", ")", size), source("a", "b"))
		reads(t, padded("package a"+strings.Repeat(";import \"b\"", 5000), ";", "", size), source("a", "b"))
		long := padded("package ", "x", "", size)
		reads(t, long, source(long[len("package "):]))
		refuses(t, padded("package a\n\nimport \"", "b", "\"", size), 3, api.ErrPath)
		refuses(t, padded("\n\npackage a;`", "b", "", size), 3, api.ErrSyntax)
		refuses(t, strings.Repeat("\n", size), size+1, api.ErrSyntax)
		refuses(t, strings.Repeat("(", size), 1, api.ErrSyntax)
	}
	for _, size := range []int{api.MaxText + 1, 2 * api.MaxText, 10 * api.MaxText} {
		refuses(t, padded("package a\nvar ", "x", "", size), 0, api.ErrLong)
		refuses(t, padded("?", "\n", "", size), 0, api.ErrLong)
		refuses(t, strings.Repeat("\n", size), 0, api.ErrLong)
		refuses(t, padded("//go:build (\n//go:build (\npackage a\n", " ", "", size), 0, api.ErrLong)
		refuses(t, padded("package a;import \"/\"", ";", "", size), 0, api.ErrLong)
	}
}
