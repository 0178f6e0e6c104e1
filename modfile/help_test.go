package modfile_test

import (
	"fmt"
	"slices"
	"strings"
	"testing"

	"mews/api"
	"mews/modfile"
)

// is fails the test unless got is want.
func is[T comparable](t *testing.T, what string, got, want T) {
	t.Helper()
	if got != want {
		t.Errorf("%s: %v, not %v", what, got, want)
	}
}

// same tells whether two manifests are the same; nil and the empty list are.
func same(a, b modfile.File) bool {
	return a.Module == b.Module && a.Go == b.Go &&
		slices.Equal(a.Require, b.Require) && slices.Equal(a.Exclude, b.Exclude) &&
		slices.Equal(a.Replace, b.Replace) && slices.Equal(a.Retract, b.Retract)
}

// isFile fails the test unless got is want.
func isFile(t *testing.T, what string, got, want modfile.File) {
	t.Helper()
	if !same(got, want) {
		t.Errorf("%s:\n%+v, not\n%+v", what, got, want)
	}
}

// parses fails the test unless the text is the manifest.
func parses(t *testing.T, text string, want modfile.File) {
	t.Helper()
	f, line, e := modfile.Parse(text)
	is(t, fmt.Sprintf("Parse(%.80q), its line and error", text), fmt.Sprint(line, e), fmt.Sprint(0, api.OK))
	isFile(t, fmt.Sprintf("Parse(%.80q)", text), f, want)
}

// refuses fails the test unless the text is at fault there so.
func refuses(t *testing.T, text string, line int, e api.Errno) {
	t.Helper()
	f, gotLine, gotE := modfile.Parse(text)
	is(t, fmt.Sprintf("Parse(%.80q), its line and error", text), fmt.Sprint(gotLine, gotE), fmt.Sprint(line, e))
	isFile(t, fmt.Sprintf("Parse(%.80q)", text), f, modfile.File{})
}

// lines is a text of lines, with a newline behind each.
func lines(all ...string) string { return strings.Join(all, "\n") + "\n" }

// module is a module, written `path version`, or `path`.
func module(s string) api.Mod {
	path, version, _ := strings.Cut(s, " ")
	return api.Mod{Path: path, Version: version}
}

// need is a require, written `path version` or `path version indirect`.
func need(s string) modfile.Require {
	s, indirect := strings.CutSuffix(s, " indirect")
	m := module(s)
	return modfile.Require{Path: m.Path, Version: m.Version, Indirect: indirect}
}

// swap is a replace, written `path => path version` or with a version ahead too.
func swap(s string) modfile.Replace {
	from, to, _ := strings.Cut(s, " => ")
	return modfile.Replace{Old: module(from), New: module(to)}
}

// span is a retract, written `low high`.
func span(s string) modfile.Retract {
	low, high, _ := strings.Cut(s, " ")
	return modfile.Retract{Low: low, High: high}
}

// each is a list, made of how its elements are written.
func each[T any](read func(string) T, all ...string) []T {
	var list []T
	for _, s := range all {
		list = append(list, read(s))
	}
	return list
}

// numbered is so many texts; %d in the form is their number.
func numbered(form string, count int) []string {
	var all []string
	for i := range count {
		all = append(all, strings.ReplaceAll(form, "%d", fmt.Sprint(i)))
	}
	return all
}

// full is a manifest with so many elements in each of its lists.
func full(count int) modfile.File {
	return modfile.File{
		Module:  "a.b",
		Require: each(need, numbered("x.y/%d v1.0.0", count)...),
		Exclude: each(module, numbered("x.y v1.%d.0", count)...),
		Replace: each(swap, numbered("x.y/%d => x.z v1.0.0", count)...),
		Retract: each(span, numbered("v1.%d.0 v1.%d.9", count)...),
	}
}
