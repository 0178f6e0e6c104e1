package cache_test

import (
	"strings"
	"testing"

	"mews/api"
	"mews/cache"
	"mews/fs"
	"mews/journal"
)

// noNames is texts that are no names.
func noNames() []string {
	return []string{
		"", "/", "/a", "a/", "a//b", ".", "..", "./a", "a/.", "a/../b", "a b", "a\\b", "a\x00", "a\n", "\x7f", "\x80", "\u00e4",
		strings.Repeat("a", api.MaxName+1), strings.Repeat("a", 1<<16),
	}
}

// opensNot fails the test unless Open answers an error, with nothing beside it,
// and has changed nothing.
func opensNot(t *testing.T, what string, f *fs.FS, dir string, want api.Errno) {
	t.Helper()
	unchanged(t, "Open, "+what, f, func() {
		c, errno := cache.Open(f, dir)
		isError(t, "Open, "+what, errno, want)
		is(t, "Open, "+what, c, nil)
	})
}

// filled is a file system whose cache has the three entries, all of it durable,
// and other files.
func filled(t *testing.T) (*fs.FS, *cache.Cache) {
	t.Helper()
	f, c := fresh(t)
	other(t, f)
	keeps(t, c, one(), "x")
	keeps(t, c, two(), "yy")
	keeps(t, c, three(), "x")
	durable(f)
	return f, c
}

// changed is the journal's bytes of changes.
func changed(t *testing.T, l ...journal.Change) string {
	t.Helper()
	b, e := journal.Encode(l)
	done(t, e)
	return string(b)
}

func TestExamples(t *testing.T) {
	f, c := fresh(t)
	is(t, "List", toldEntries(c.List()), "")
	e, zip, txt := entry("a.b/C", "v1.0.0", "mod"), entry("a.b/C", "v1.0.0", "zip"), entry("a.b/C", "v1.0.0", "txt")
	isError(t, "Put", c.Put(e, []byte("x")), api.OK)
	name, errno := c.NameOf(e)
	isError(t, "NameOf", errno, api.OK)
	is(t, "NameOf", name, "cache/name/a.b/!c/@v/v1.0.0.mod")
	blob := "cache/blob/2d711642b726b04401627ca9fbac32f5c8530fb1903cc4db02258717921a4881"
	is(t, "BlobOf", c.BlobOf([]byte("x")), blob)
	peeks(t, "whole", c, e, "x")
	isError(t, "Put with y", c.Put(e, []byte("y")), api.ErrMismatch)
	getsNot(t, "zip", c, zip, api.ErrNone)
	getsNot(t, "txt", c, txt, api.ErrKind)
	lay(t, f, blob, "z")
	peeksNot(t, "written anew", c, e, api.ErrCorrupt)
	getsNot(t, "written anew", c, e, api.ErrCorrupt)
	getsNot(t, "again", c, e, api.ErrNone)
	isError(t, "Put again", c.Put(e, []byte("x")), api.OK)
	n, errno := c.Sweep(nil)
	isError(t, "Sweep", errno, api.OK)
	is(t, "Sweep", n, 2)
	is(t, "List", toldEntries(c.List()), "")
}

func TestP10_1_Names(t *testing.T) {
	long := strings.Repeat("d", api.MaxName)
	up, down := fs.New(1000), fs.New(1000)
	downed(down)
	noJournal := []string{long, long[:api.MaxName-len("/tx/journal")+1], long[:api.MaxName-len("/tx")], long[:api.MaxName-len("/tx")+1]}
	for _, dir := range append(noNames(), noJournal...) {
		opensNot(t, "the directory "+brief(dir), up, dir, api.ErrName)
		opensNot(t, "down, the directory "+brief(dir), down, dir, api.ErrName)
	}
	for _, f := range []*fs.FS{up, down} {
		for _, dir := range noNames() {
			c, errno := cache.View(f, dir)
			isError(t, "View, the directory "+brief(dir), errno, api.ErrName)
			is(t, "View, the directory "+brief(dir), c, nil)
		}
		for _, dir := range noJournal {
			c, errno := cache.View(f, dir)
			isError(t, "View, the directory "+brief(dir), errno, api.OK)
			is(t, "View, the directory "+brief(dir), c != nil, true)
			is(t, "List", len(c.List())+len(c.Bad()), 0)
			peeksNot(t, "no room for a name", c, one(), api.ErrName)
		}
	}
	for _, dir := range []string{"c", "a/b/c", "name", "...", "~/!", long[:api.MaxName-len("/tx/journal")]} {
		c, errno := cache.Open(fs.New(1000), dir)
		isError(t, "Open, the directory "+brief(dir), errno, api.OK)
		is(t, "Open, the directory "+brief(dir), c != nil, true)
	}
}

// A directory has its own cache, whatever other ones there are.
func TestP10_1_Directories(t *testing.T) {
	f := fs.New(10000)
	dirs := []string{"c", "c/name", "c/blob/c", "d", "cc"}
	for _, dir := range dirs {
		c, errno := cache.Open(f, dir)
		isError(t, "Open, "+dir, errno, api.OK)
		keeps(t, c, one(), "of "+dir)
		is(t, "BlobOf, "+dir, c.BlobOf([]byte("x")), dir+"/blob/"+modelDigits("x"))
		name, _ := c.NameOf(one())
		is(t, "NameOf, "+dir, name, dir+"/name/a.b/!c/@v/v1.0.0.mod")
	}
	for _, dir := range dirs {
		c, errno := cache.View(f, dir)
		isError(t, "View, "+dir, errno, api.OK)
		is(t, "List, "+dir, toldEntries(c.List()), toldEntries(entries(one())))
		peeks(t, dir, c, one(), "of "+dir)
	}
}

func TestP10_1_OpenOfNothing(t *testing.T) {
	f := fs.New(0)
	unchanged(t, "Open", f, func() { opens(t, f) })
	f, _ = filled(t)
	unchanged(t, "Open", f, func() { opens(t, f) })
	f.Arm(1)
	unchanged(t, "Open, armed", f, func() { opens(t, f) })
}

// What was interrupted is done by the journal.
func TestP10_1_OpenFinishes(t *testing.T) {
	f, _ := filled(t)
	want := modelOf(f)
	lay(t, f, journalFile, changed(t,
		journal.Change{Name: nameOf(one()), Drop: true},
		journal.Change{Name: modelBlob("z"), Data: []byte("z")},
	))
	delete(want, nameOf(one()))
	want[modelBlob("z")] = "z"
	c := opens(t, f)
	has(t, "what was interrupted", f, want)
	peeksNot(t, "gone", c, one(), api.ErrNone)
	lay(t, f, journalFile, "no journal")
	opens(t, f)
	has(t, "no journal", f, want)
}

func TestP10_1_OpenErrors(t *testing.T) {
	f, _ := filled(t)
	downed(f)
	opensNot(t, "down", f, dir, api.ErrDown)
	f = fs.New(100)
	big := changed(t, journal.Change{Name: "a", Data: []byte(strings.Repeat("x", 60))})
	lay(t, f, journalFile, big)
	opensNot(t, "no room", f, dir, api.ErrQuota)
	f, _ = filled(t)
	lay(t, f, journalFile, changed(t, journal.Change{Name: "a", Data: []byte("x")}))
	f.Arm(2)
	c, errno := cache.Open(f, dir)
	isError(t, "going down", errno, api.ErrDown)
	is(t, "going down", c, nil)
}

// The cache keeps f: what others do to it shows.
func TestP10_1_KeepsTheFiles(t *testing.T) {
	f, c := fresh(t)
	v := views(t, f)
	keeps(t, c, one(), "x")
	peeks(t, "View made ahead", v, one(), "x")
	g := f.Copy()
	done(t, f.Remove(nameOf(one())))
	peeksNot(t, "removed", c, one(), api.ErrNone)
	peeksNot(t, "removed", v, one(), api.ErrNone)
	peeks(t, "a copy", opens(t, g), one(), "x")
}

func TestP10_1_ViewOpensNothing(t *testing.T) {
	f, _ := filled(t)
	lay(t, f, journalFile, changed(t, journal.Change{Name: nameOf(one()), Drop: true}))
	unchanged(t, "View", f, func() {
		v := views(t, f)
		peeks(t, "a journal is there", v, one(), "x")
		is(t, "List", len(v.List()), 3)
	})
	downed(f)
	v := views(t, f)
	peeks(t, "down", v, one(), "x")
}

// viewed is a file system with an entry that is whole, two that are bad, one
// whose blob is there, and other files.
func viewed(t *testing.T) *fs.FS {
	t.Helper()
	f, _ := filled(t)
	lay(t, f, modelBlob("yy"), "spoilt", nameOf(three()), "nothing")
	return f
}

// ups is what is done to a file system ahead of calls: nothing; it goes down;
// it is armed.
func ups() map[string]func(f *fs.FS) {
	return map[string]func(f *fs.FS){
		"up":    func(f *fs.FS) {},
		"down":  downed,
		"armed": func(f *fs.FS) { f.Arm(1) },
	}
}

func TestP10_1_ViewWritesNothing(t *testing.T) {
	for how, ahead := range ups() {
		f := viewed(t)
		ahead(f)
		v := views(t, f)
		unchanged(t, how, f, func() {
			for _, e := range append(wrongEntries(), one(), two(), three(), entry("a.b", "v1.0.0", "mod")) {
				for _, data := range []string{"", "x", "y"} {
					isError(t, how+", Put of "+brief(e), v.Put(e, []byte(data)), api.ErrDown)
				}
			}
			for _, keep := range [][]cache.Entry{nil, v.List(), wrongEntries()} {
				n, errno := v.Sweep(keep)
				isError(t, how+", Sweep", errno, api.ErrDown)
				is(t, how+", Sweep", n, 0)
			}
		})
	}
}

func TestP10_1_ViewGets(t *testing.T) {
	for how, ahead := range ups() {
		f := viewed(t)
		ahead(f)
		v := views(t, f)
		unchanged(t, how, f, func() {
			peeks(t, how+", whole", v, one(), "x")
			peeksNot(t, how+", not there", v, entry("a.b", "v1.0.0", "mod"), api.ErrNone)
			getsNot(t, how+", not there", v, entry("a.b", "v1.0.0", "mod"), api.ErrNone)
			for _, e := range entries(two(), three()) {
				peeksNot(t, how+", bad", v, e, api.ErrCorrupt)
				getsNot(t, how+", bad", v, e, api.ErrDown)
			}
			for _, e := range wrongEntries() {
				_, want := modelName(e)
				peeksNot(t, how+", "+brief(e), v, e, want)
				getsNot(t, how+", "+brief(e), v, e, api.ErrDown)
			}
		})
	}
}

// What only asks is told by View as by Open.
func TestP10_1_ViewAsks(t *testing.T) {
	f := viewed(t)
	v, c := views(t, f), opens(t, f)
	is(t, "List", toldEntries(v.List()), toldEntries(entries(one(), two(), three())))
	is(t, "Bad", toldEntries(v.Bad()), toldEntries(entries(two(), three())))
	is(t, "BlobOf", v.BlobOf([]byte("x")), c.BlobOf([]byte("x")))
	for _, e := range append(wrongEntries(), one(), two(), three()) {
		got, errno := v.NameOf(e)
		want, wanted := c.NameOf(e)
		isError(t, "NameOf", errno, wanted)
		is(t, "NameOf", got, want)
	}
}
