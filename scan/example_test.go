package scan_test

import (
	"testing"

	"mews/api"
	"mews/scan"
)

func TestExamplesOfSources(t *testing.T) {
	reads(t, "package a", source("a"))
	reads(t, lines("//go:build linux && !arm64", "", "package a", `import ( "b.c/d"; x "fmt" )`, "func f() {"),
		scan.Source{Package: "a", Imports: []string{"b.c/d", "fmt"}, Constraint: "linux && !arm64"})
	refuses(t, "", 1, api.ErrSyntax)
	refuses(t, lines("package", "a"), 1, api.ErrSyntax)
	refuses(t, `package a import "b"`, 1, api.ErrSyntax)
	refuses(t, lines("package a", `import "/b"`), 2, api.ErrPath)
	refuses(t, "/* a", 1, api.ErrSyntax)
}

func TestExamplesOfExpressions(t *testing.T) {
	evals(t, "a && (b || !c)", list("a"), true)
	noExpression(t, "a &", api.ErrSyntax)
	noExpression(t, "", api.ErrSyntax)
}

func TestExamplesOfNames(t *testing.T) {
	for name, want := range map[string]bool{"a.go": true, "a_test.go": false, "a_linux.go": true, "linux.go": true, "a_linux_arm64.go": false, "_a.go": false} {
		is(t, "Name("+name+")", scan.Name(name, list("linux amd64")), want)
	}
}

func TestExamplesOfPaths(t *testing.T) {
	is(t, "Std(fmt)", scan.Std("fmt"), true)
	is(t, "Std(a.b/c)", scan.Std("a.b/c"), false)
	provides(t, "a.b/c/d", list("a.b a.b/c"), "a.b/c")
	providesNot(t, "a.bc", list("a.b"))
}
