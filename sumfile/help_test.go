package sumfile_test

import (
	"crypto/sha256"
	"encoding/base64"
	"fmt"
	"slices"
	"strings"
	"testing"

	"mews/api"
	"mews/sumfile"
)

const (
	sumA = "h1:GB3V+RHYJ0Fh5yVdkr/FJ2NLxxU/jcQfOueJ31XcEPE="
	sumB = "h1:FJlczEz7dPvtK22Sn6xX7+c9jcgvi4lX4eLDONGH9c8="
)

// A path and a version of as many bytes as may be, and one more.
var (
	longPath    = filled("x.y/", api.MaxPath)
	overPath    = filled("x.y/", api.MaxPath+1)
	longVersion = filled("v1.0.0-", api.MaxVersion)
	overVersion = filled("v1.0.0-", api.MaxVersion+1)
)

// filled is a text of so many bytes: head, and then `a`s.
func filled(head string, length int) string {
	return head + strings.Repeat("a", length-len(head))
}

// sumOf is a sum, another one for each text.
func sumOf(text string) string {
	hash := sha256.Sum256([]byte(text))
	return "h1:" + base64.StdEncoding.EncodeToString(hash[:])
}

// brief is how something is told where a test fails.
func brief(v any) string { return fmt.Sprintf("%.500s", fmt.Sprint(v)) }

// is fails the test unless got is want.
func is[T comparable](t *testing.T, what string, got, want T) {
	t.Helper()
	if got != want {
		t.Errorf("%s: %s, not %s", what, brief(got), brief(want))
	}
}

// isList fails the test unless got is want; nil and the empty list are the same.
func isList[T comparable](t *testing.T, what string, got, want []T) {
	t.Helper()
	if !slices.Equal(got, want) {
		t.Errorf("%s:\n%s, not\n%s", what, brief(got), brief(want))
	}
}

// sameVendor tells whether two vendor lists are the same.
func sameVendor(a, b []sumfile.Vendored) bool {
	return slices.EqualFunc(a, b, func(a, b sumfile.Vendored) bool {
		return a.Mod == b.Mod && a.Explicit == b.Explicit && slices.Equal(a.Packages, b.Packages)
	})
}

// isVendor fails the test unless got is want.
func isVendor(t *testing.T, what string, got, want []sumfile.Vendored) {
	t.Helper()
	if !sameVendor(got, want) {
		t.Errorf("%s:\n%s, not\n%s", what, brief(got), brief(want))
	}
}

// parses fails the test unless the text is the lock.
func parses(t *testing.T, text string, want []sumfile.Line) {
	t.Helper()
	l, line, e := sumfile.Parse(text)
	is(t, fmt.Sprintf("Parse(%.80q), its line and error", text), fmt.Sprint(line, e), fmt.Sprint(0, api.OK))
	isList(t, fmt.Sprintf("Parse(%.80q)", text), l, want)
}

// refuses fails the test unless the lock's text is at fault there so.
func refuses(t *testing.T, text string, line int, e api.Errno) {
	t.Helper()
	l, gotLine, gotE := sumfile.Parse(text)
	is(t, fmt.Sprintf("Parse(%.200q), its line and error", text), fmt.Sprint(gotLine, gotE), fmt.Sprint(line, e))
	isList(t, fmt.Sprintf("Parse(%.200q)", text), l, nil)
}

// formats fails the test unless Format answers the text, or the error.
func formats(t *testing.T, l []sumfile.Line, want string, wantE api.Errno) {
	t.Helper()
	text, e := sumfile.Format(l)
	is(t, "Format("+brief(l)+"), its error", e, wantE)
	is(t, "Format("+brief(l)+")", text, want)
}

// parsesVendor fails the test unless the text is the vendor list.
func parsesVendor(t *testing.T, text string, want []sumfile.Vendored) {
	t.Helper()
	l, line, e := sumfile.ParseVendor(text)
	is(t, fmt.Sprintf("ParseVendor(%.80q), its line and error", text), fmt.Sprint(line, e), fmt.Sprint(0, api.OK))
	isVendor(t, fmt.Sprintf("ParseVendor(%.80q)", text), l, want)
}

// refusesVendor fails the test unless the vendor list's text is at fault there so.
func refusesVendor(t *testing.T, text string, line int, e api.Errno) {
	t.Helper()
	l, gotLine, gotE := sumfile.ParseVendor(text)
	is(t, fmt.Sprintf("ParseVendor(%.200q), its line and error", text), fmt.Sprint(gotLine, gotE), fmt.Sprint(line, e))
	isVendor(t, fmt.Sprintf("ParseVendor(%.200q)", text), l, nil)
}

// formatsVendor fails the test unless FormatVendor answers the text, or the error.
func formatsVendor(t *testing.T, l []sumfile.Vendored, want string, wantE api.Errno) {
	t.Helper()
	text, e := sumfile.FormatVendor(l)
	is(t, "FormatVendor("+brief(l)+"), its error", e, wantE)
	is(t, "FormatVendor("+brief(l)+")", text, want)
}

// lines is a text of lines, with a newline behind each.
func lines(all ...string) string {
	text := ""
	for _, line := range all {
		text += line + "\n"
	}
	return text
}

// module is a module, written `path version`, or `path`.
func module(s string) api.Mod {
	path, version, _ := strings.Cut(s, " ")
	return api.Mod{Path: path, Version: version}
}

// tree and manifest are lines of a module, written `path version`.
func tree(s, sum string) sumfile.Line {
	return sumfile.Line{Mod: module(s), Kind: sumfile.Tree, Sum: sum}
}

func manifest(s, sum string) sumfile.Line {
	return sumfile.Line{Mod: module(s), Kind: sumfile.Manifest, Sum: sum}
}

// vendored is a module, written `path version` or `path version explicit`, and
// its packages.
func vendored(s string, packages ...string) sumfile.Vendored {
	s, explicit := strings.CutSuffix(s, " explicit")
	return sumfile.Vendored{Mod: module(s), Explicit: explicit, Packages: packages}
}

// each is a list, made of how its elements are written.
func each[T any](read func(string) T, all ...string) []T {
	var list []T
	for _, s := range all {
		list = append(list, read(s))
	}
	return list
}
