package scan_test

import (
	"fmt"
	"math/rand"
	"slices"
	"strings"
	"testing"

	"mews/api"
	"mews/scan"
)

// is fails the test unless got is want.
func is[T comparable](t *testing.T, what string, got, want T) {
	t.Helper()
	if got != want {
		t.Errorf("%s: %v, not %v", what, got, want)
	}
}

// isList fails the test unless got is want; nil and the empty list are the same.
func isList(t *testing.T, what string, got, want []string) {
	t.Helper()
	if !slices.Equal(got, want) {
		t.Errorf("%s: %.300q, not %.300q", what, got, want)
	}
}

// brief is how a text is told where a test fails.
func brief(s string) string { return fmt.Sprintf("%.200q", s) }

// source is what a front says that has no constraint.
func source(name string, imports ...string) scan.Source {
	return scan.Source{Package: name, Imports: imports}
}

// constrained is what a front says that imports nothing.
func constrained(name, constraint string) scan.Source {
	return scan.Source{Package: name, Constraint: constraint}
}

// reads fails the test unless the source says that.
func reads(t *testing.T, src string, want scan.Source) {
	t.Helper()
	got, line, e := scan.Read(src)
	what := "Read(" + brief(src) + ")"
	is(t, what+", its line and error", fmt.Sprint(line, e), fmt.Sprint(0, api.OK))
	is(t, what+", its package", got.Package, want.Package)
	is(t, what+", its constraint", got.Constraint, want.Constraint)
	isList(t, what+", its imports", got.Imports, want.Imports)
}

// refuses fails the test unless the source is at fault there so.
func refuses(t *testing.T, src string, line int, e api.Errno) {
	t.Helper()
	got, gotLine, gotE := scan.Read(src)
	what := "Read(" + brief(src) + ")"
	is(t, what+", its line and error", fmt.Sprint(gotLine, gotE), fmt.Sprint(line, e))
	is(t, what+", its package", got.Package, "")
	is(t, what+", its constraint", got.Constraint, "")
	isList(t, what+", its imports", got.Imports, nil)
}

// evals fails the test unless the expression is that, where there are these tags.
func evals(t *testing.T, expr string, tags []string, want bool) {
	t.Helper()
	got, e := scan.Eval(expr, tags)
	is(t, fmt.Sprintf("Eval(%s, %.100q)", brief(expr), tags), fmt.Sprint(got, e), fmt.Sprint(want, api.OK))
}

// noExpression fails the test unless Eval refuses the text so.
func noExpression(t *testing.T, expr string, want api.Errno) {
	t.Helper()
	for _, tags := range [][]string{nil, {"a"}, {"a", "b", "", expr}} {
		got, e := scan.Eval(expr, tags)
		is(t, fmt.Sprintf("Eval(%s, %.100q)", brief(expr), tags), fmt.Sprint(got, e), fmt.Sprint(false, want))
	}
}

// lines is a text of lines, with a newline between.
func lines(all ...string) string { return strings.Join(all, "\n") }

// list is the pieces of a text with blanks between.
func list(s string) []string { return strings.Fields(s) }

// file is a file with a text.
func file(name string, text ...string) api.File {
	return api.File{Name: name, Data: []byte(lines(text...))}
}

// draw is one of them by chance.
func draw[T any](chance *rand.Rand, all ...T) T { return all[chance.Intn(len(all))] }

// shuffled is the list in another order.
func shuffled[T any](chance *rand.Rand, list []T) []T {
	mixed := slices.Clone(list)
	chance.Shuffle(len(mixed), func(i, k int) { mixed[i], mixed[k] = mixed[k], mixed[i] })
	return mixed
}

// some is those of a list that chance takes, in order.
func some[T any](chance *rand.Rand, list []T) []T {
	var taken []T
	for _, element := range list {
		if chance.Intn(2) == 0 {
			taken = append(taken, element)
		}
	}
	return taken
}

// sortedOnce is the list, rising, each once.
func sortedOnce(list []string) []string { return slices.Compact(slices.Sorted(slices.Values(list))) }
