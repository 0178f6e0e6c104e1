package journal_test

import (
	"bytes"
	"fmt"
	"strings"
	"testing"

	"mews/api"
	"mews/fs"
	"mews/journal"
)

// file is the journal's file of the directory tx.
const file = "tx/journal"

// brief is how something is told where a test fails.
func brief(v any) string { return fmt.Sprintf("%.400s", fmt.Sprintf("%+q", v)) }

// is fails the test unless got is want.
func is[T comparable](t *testing.T, what string, got, want T) {
	t.Helper()
	if got != want {
		t.Errorf("%s: %s, not %s", what, brief(got), brief(want))
	}
}

// isError fails the test unless an error is the one that is asked.
func isError(t *testing.T, what string, got, want api.Errno) {
	t.Helper()
	if got != want {
		t.Errorf("%s: error %d, not %d", what, got, want)
	}
}

// isBytes fails the test unless got is want; nil and the empty list are the same.
func isBytes(t *testing.T, what string, got, want []byte) {
	t.Helper()
	if !bytes.Equal(got, want) {
		t.Errorf("%s: %.200x, not %.200x", what, got, want)
	}
}

func write(name, data string) journal.Change {
	return journal.Change{Name: name, Data: []byte(data)}
}

func drop(name string) journal.Change { return journal.Change{Name: name, Drop: true} }

func changes(l ...journal.Change) []journal.Change { return l }

// toldChanges is changes as one text.
func toldChanges(l []journal.Change) string {
	var parts []string
	for _, c := range l {
		parts = append(parts, fmt.Sprintf("%q=%q %t", c.Name, c.Data, c.Drop))
	}
	return strings.Join(parts, "; ")
}

// told is files as one text.
func told(files []api.File) string {
	var parts []string
	for _, f := range files {
		parts = append(parts, f.Name+"="+string(f.Data))
	}
	return strings.Join(parts, " ")
}

// arms tells how many writes a file system is armed for, 0 if for none up to 20.
func arms(f *fs.FS) int {
	if f.Down() {
		return 0
	}
	g := f.Copy()
	for n := range 20 {
		if g.SyncDir("no/such") == api.ErrDown {
			return n + 1
		}
	}
	return 0
}

// crashed is the files behind a crash of a copy.
func crashed(f *fs.FS, names, bytes int) string { return told(crash(f, names, bytes).Files()) }

// state is everything that can be told of a file system, with what crashes of
// a few pending changes would leave.
func state(f *fs.FS) string {
	var b strings.Builder
	fmt.Fprintln(&b, told(f.Files()), "|", told(f.Durable()), "|", f.Size(), f.Quota(), f.Steps(), f.Down(), arms(f))
	for names := range 5 {
		for _, bytes := range []int{0, 1, 20, 1000} {
			fmt.Fprintln(&b, crashed(f, names, bytes))
		}
	}
	return b.String()
}

// done is a write that the test takes for granted.
func done(t *testing.T, e api.Errno) {
	t.Helper()
	if e != api.OK {
		t.Fatalf("error %d, not OK", e)
	}
}

// lay writes texts under names: name, text, name, text ...
func lay(t *testing.T, f *fs.FS, pairs ...string) {
	t.Helper()
	for i := 0; i < len(pairs); i += 2 {
		done(t, f.Write(pairs[i], []byte(pairs[i+1])))
	}
}

// durable makes all of a file system durable.
func durable(f *fs.FS) {
	f.Crash(1<<30, 1<<30)
}

// laid is a file system with texts under names, all of it durable.
func laid(t *testing.T, quota int, pairs ...string) *fs.FS {
	t.Helper()
	f := fs.New(quota)
	lay(t, f, pairs...)
	durable(f)
	return f
}

// downed lets a file system go down.
func downed(f *fs.FS) {
	f.Arm(1)
	f.SyncDir("")
}

// opens is the journal of tx, which had so many changes to do.
func opens(t *testing.T, what string, f *fs.FS, count int) *journal.Journal {
	t.Helper()
	j, n, e := journal.Open(f, "tx")
	if j == nil || e != api.OK {
		t.Fatalf("Open, %s: %d, error %d", what, n, e)
	}
	is(t, "Open, "+what+", how many changes", n, count)
	return j
}

// opensNot fails the test unless Open answers an error, with nothing beside it,
// and has changed nothing.
func opensNot(t *testing.T, what string, f *fs.FS, dir string, want api.Errno) {
	t.Helper()
	before := state(f)
	j, n, e := journal.Open(f, dir)
	isError(t, "Open, "+what, e, want)
	if j != nil || n != 0 {
		t.Errorf("Open, %s: %v, %d beside the error", what, j, n)
	}
	is(t, "the files behind Open, "+what, state(f), before)
}

// has fails the test unless a file system has these files, all of them durable.
func has(t *testing.T, what string, f *fs.FS, want string) {
	t.Helper()
	is(t, "Files, "+what, told(f.Files()), want)
	is(t, "Durable, "+what, told(f.Durable()), want)
}

// applies fails the test unless Apply does what the model does, durably.
func applies(t *testing.T, what string, f *fs.FS, j *journal.Journal, l []journal.Change) {
	t.Helper()
	want := modelApply(f.Files(), l)
	isError(t, "Apply, "+what, j.Apply(l), api.OK)
	has(t, what, f, want)
}

// appliesNot fails the test unless Apply answers an error, and has changed nothing.
func appliesNot(t *testing.T, what string, f *fs.FS, j *journal.Journal, l []journal.Change, want api.Errno) {
	t.Helper()
	before := state(f)
	isError(t, "Apply, "+what, j.Apply(l), want)
	is(t, "the files behind Apply, "+what, state(f), before)
}

// noNames is texts that are no names.
func noNames() []string {
	return []string{
		"", "/", "/a", "a/", "a//b", ".", "..", "./a", "a/.", "a/../b", "a b", "a\\b", "a\x00", "a\n", "\x7f", "\x80", "\u00e4",
		strings.Repeat("a", api.MaxName+1), strings.Repeat("a", 1<<16), strings.Repeat("a", 1<<16+1),
	}
}

// someWrites is so many writes, each of data, below a directory.
func someWrites(count int, dir, data string) []journal.Change {
	l := make([]journal.Change, count)
	for i := range l {
		l[i] = write(fmt.Sprint(dir, "/", i), data)
	}
	return l
}
