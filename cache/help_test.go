package cache_test

import (
	"fmt"
	"strings"
	"testing"

	"mews/api"
	"mews/cache"
	"mews/fs"
)

// dir is the directory of the caches of these tests.
const dir = "cache"

// journalFile is the file of its journal.
const journalFile = "cache/tx/journal"

// brief is how something is told where a test fails.
func brief(v any) string { return fmt.Sprintf("%.600s", fmt.Sprintf("%+q", v)) }

// is fails the test unless got is want.
func is[T comparable](t *testing.T, what string, got, want T) {
	t.Helper()
	if got != want {
		t.Errorf("%s: %s, not %s", what, brief(got), brief(want))
	}
}

// isError fails the test unless an error is the one that is asked.
func isError(t *testing.T, what string, got, want api.Errno) {
	t.Helper()
	if got != want {
		t.Errorf("%s: error %d, not %d", what, got, want)
	}
}

// entry is an entry.
func entry(path, version, kind string) cache.Entry {
	return cache.Entry{Mod: api.Mod{Path: path, Version: version}, Kind: kind}
}

// entries is entries.
func entries(l ...cache.Entry) []cache.Entry { return l }

// The entries of most tests: three modules, each kind.
func one() cache.Entry   { return entry("a.b/C", "v1.0.0", "mod") }
func two() cache.Entry   { return entry("a.b/C", "v1.0.0", "zip") }
func three() cache.Entry { return entry("x.y/z/v2", "v2.3.4-Rc.1", "info") }

// told is files as one text.
func told(files []api.File) string {
	var parts []string
	for _, f := range files {
		parts = append(parts, f.Name+"="+string(f.Data))
	}
	return strings.Join(parts, " ")
}

// toldEntries is entries as one text.
func toldEntries(l []cache.Entry) string {
	var parts []string
	for _, e := range l {
		parts = append(parts, fmt.Sprintf("%q@%q.%q", e.Mod.Path, e.Mod.Version, e.Kind))
	}
	return strings.Join(parts, " ")
}

// crash is a copy behind a crash.
func crash(f *fs.FS, names, bytes int) *fs.FS {
	g := f.Copy()
	g.Crash(names, bytes)
	return g
}

// state is everything that can be told of a file system, with what some
// crashes would leave, and whether its next write is armed.
func state(f *fs.FS) string {
	var b strings.Builder
	fmt.Fprintln(&b, told(f.Files()), "|", told(f.Durable()), "|", f.Size(), f.Quota(), f.Steps(), f.Down())
	for names := range 4 {
		for _, bytes := range []int{0, 1, 1000} {
			fmt.Fprintln(&b, told(crash(f, names, bytes).Files()))
		}
	}
	fmt.Fprintln(&b, f.Copy().SyncDir("no/such"))
	return b.String()
}

// done is a write that the test takes for granted.
func done(t *testing.T, e api.Errno) {
	t.Helper()
	if e != api.OK {
		t.Fatalf("error %d, not OK", e)
	}
}

// lay writes texts under names: name, text, name, text ...
func lay(t *testing.T, f *fs.FS, pairs ...string) {
	t.Helper()
	for i := 0; i < len(pairs); i += 2 {
		done(t, f.Write(pairs[i], []byte(pairs[i+1])))
	}
}

// durable makes all of a file system durable.
func durable(f *fs.FS) { f.Crash(1<<30, 1<<30) }

// downed lets a file system go down.
func downed(f *fs.FS) {
	f.Arm(1)
	f.SyncDir("")
}

// opens is the cache of a file system.
func opens(t *testing.T, f *fs.FS) *cache.Cache {
	t.Helper()
	c, e := cache.Open(f, dir)
	if c == nil || e != api.OK {
		t.Fatalf("Open: error %d", e)
	}
	return c
}

// views is a cache that only looks.
func views(t *testing.T, f *fs.FS) *cache.Cache {
	t.Helper()
	before := state(f)
	c, e := cache.View(f, dir)
	if c == nil || e != api.OK {
		t.Fatalf("View: error %d", e)
	}
	is(t, "the files behind View", state(f), before)
	return c
}

// fresh is a new file system, and its cache.
func fresh(t *testing.T) (*fs.FS, *cache.Cache) {
	t.Helper()
	f := fs.New(1 << 20)
	return f, opens(t, f)
}

// other is files of a file system that are no cache's, but look like it.
func other(t *testing.T, f *fs.FS) {
	t.Helper()
	lay(t, f,
		"go.mod", "module a.b\n", "name/a.b/@v/v1.0.0.mod", "x", "blob/x", "x", "cache", "x", "cache/name", "x", "cache/blob", "x",
		"cache/names/a.b/@v/v1.0.0.mod", "x", "cache/blobs/x", "x", "cache/tx/x", "x", "cache/bad/x", "x", "cach/blob/x", "x",
		"cache/cache/blob/x", "x", "x/cache/blob/x", "x", "cachename/x", "x", "cache/Blob/x", "x", "cache/tx/journal/x", "x",
	)
}

// keeps is Put that the test takes for granted.
func keeps(t *testing.T, c *cache.Cache, e cache.Entry, data string) {
	t.Helper()
	done(t, c.Put(e, []byte(data)))
}

// peeks fails the test unless Peek, Get and Has tell an entry's bytes.
func peeks(t *testing.T, what string, c *cache.Cache, e cache.Entry, want string) {
	t.Helper()
	b, errno := c.Peek(e)
	isError(t, "Peek, "+what, errno, api.OK)
	is(t, "Peek, "+what, string(b), want)
	b, errno = c.Get(e)
	isError(t, "Get, "+what, errno, api.OK)
	is(t, "Get, "+what, string(b), want)
	is(t, "Has, "+what, c.Has(e), true)
}

// peeksNot fails the test unless Peek answers an error, with nothing beside it.
func peeksNot(t *testing.T, what string, c *cache.Cache, e cache.Entry, want api.Errno) {
	t.Helper()
	b, errno := c.Peek(e)
	isError(t, "Peek, "+what, errno, want)
	is(t, "Peek, "+what, string(b), "")
	is(t, "Has, "+what, c.Has(e), false)
}

// getsNot fails the test unless Get answers an error, with nothing beside it.
func getsNot(t *testing.T, what string, c *cache.Cache, e cache.Entry, want api.Errno) {
	t.Helper()
	b, errno := c.Get(e)
	isError(t, "Get, "+what, errno, want)
	is(t, "Get, "+what, string(b), "")
}

// unchanged fails the test if something changes a file system.
func unchanged(t *testing.T, what string, f *fs.FS, do func()) {
	t.Helper()
	before := state(f)
	do()
	is(t, "the files behind "+what, state(f), before)
}

// has fails the test unless a file system has these files, all of them durable.
func has(t *testing.T, what string, f *fs.FS, want map[string]string) {
	t.Helper()
	is(t, "Files, "+what, told(f.Files()), told(modelFiles(want)))
	is(t, "Durable, "+what, told(f.Durable()), told(modelFiles(want)))
}
