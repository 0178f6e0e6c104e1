package cache_test

import (
	"fmt"
	"slices"
	"strings"
	"testing"

	"mews/api"
	"mews/cache"
	"mews/fs"
)

// ordered is entries, as List tells them. The order of their files is another.
func ordered() []cache.Entry {
	return entries(
		entry("a.b", "v0.0.0", "mod"),
		entry("a.b", "v1.0.0-1", "zip"),
		entry("a.b", "v1.0.0-2", "info"),
		entry("a.b", "v1.0.0-10", "mod"),
		entry("a.b", "v1.0.0-B", "mod"),
		entry("a.b", "v1.0.0-a", "mod"),
		entry("a.b", "v1.0.0-a.b", "mod"),
		entry("a.b", "v1.0.0", "info"),
		entry("a.b", "v1.0.0", "mod"),
		entry("a.b", "v1.0.0", "zip"),
		entry("a.b", "v1.9.0", "zip"),
		entry("a.b", "v1.10.0", "info"),
		entry("a.b-c", "v1.0.0", "mod"),
		entry("a.b.c", "v1.0.0", "mod"),
		entry("a.b/-x", "v1.0.0", "mod"),
		entry("a.b/C", "v1.0.0", "mod"),
		entry("a.b/C", "v1.0.0", "zip"),
		entry("a.b/D", "v1.0.0", "info"),
		entry("a.b/c", "v1.0.0", "info"),
		entry("a.b/v10", "v10.0.0", "mod"),
		entry("a.b/v2", "v2.0.0", "mod"),
		entry("b.a", "v1.0.0", "zip"),
	)
}

// noEntries is names of files that are no entry's.
func noEntries() []string {
	l := []string{
		"garbage", "a.b", "a.b/v1.0.0.mod", "a.b/@v", "a.b/@v/v1", "a.b/@v/mod", "a.b/@v/v1.0.0", "a.b/@v/.mod", "a.b/@v/v1.0.0.",
		"@v/v1.0.0.mod", "@v/@v/v1.0.0.mod", "a.b/@v/@v/v1.0.0.mod", "a.b/@v/x/@v/v1.0.0.mod", "a.b/@v/v1.0.0.mod/x", "a.b/@v/x/v1.0.0.mod",
		"a.b/@v/v1.0.0.mod/@v/v1.0.0.mod", "a.b@v/v1.0.0.mod", "a.b/@V/v1.0.0.mod", "a.b/v/v1.0.0.mod", "a.b/@@v/v1.0.0.mod", "a.b/@v/v1.0.0mod",
		"a.b/C/@v/v1.0.0.mod", "a.b/!C/@v/v1.0.0.mod", "a.b/!/@v/v1.0.0.mod", "a.b/!!c/@v/v1.0.0.mod", "a.b/!1/@v/v1.0.0.mod", "!a.b/@v/v1.0.0.mod",
		"a.b/@v/V1.0.0.mod", "a.b/@v/!v1.0.0.mod", "a.b/@v/v1.0.0-A.mod", "a.b/@v/v1.0.0-!A.mod", "a.b/@v/v1.0.0-!.mod", "a.b/@v/v1.0.0.!mod",
		"a.b/@v/v01.0.0.mod", "a.b/@v/v1.0.mod", "a.b/@v/v2.0.0.mod", "a.b/v1/@v/v1.0.0.mod", "a.b/v2/@v/v1.0.0.mod", "ab/@v/v1.0.0.mod",
		"a.b/.c/@v/v1.0.0.mod", "a.b/c./@v/v1.0.0.mod", "a.b/c+/@v/v1.0.0.mod", "a.b/@v/list", "a.b/@latest",
		"name/a.b/@v/v1.0.0.mod", "cache/name/a.b/@v/v1.0.0.mod", "a.b/" + strings.Repeat("c", 97) + "/@v/v1.0.0.mod",
	}
	for _, kind := range wrongKinds() {
		if name := "x.y/@v/v1.0.0." + kind; fs.Valid(name) {
			l = append(l, name)
		}
	}
	return l
}

func TestP10_5_Order(t *testing.T) {
	f, c := fresh(t)
	l := ordered()
	for i := range l {
		keeps(t, c, l[(i*7+3)%len(l)], fmt.Sprint(i%3))
	}
	is(t, "List", toldEntries(c.List()), toldEntries(l))
	is(t, "Bad", toldEntries(c.Bad()), "")
	checked{t, f, c, l}.list()
	for name := range modelOf(f) {
		if strings.HasPrefix(name, "cache/blob/") {
			lay(t, f, name, "spoilt")
		}
	}
	is(t, "List, all bad", toldEntries(c.List()), toldEntries(l))
	is(t, "Bad, all bad", toldEntries(c.Bad()), toldEntries(l))
}

func TestP10_5_Bad(t *testing.T) {
	f, c := fresh(t)
	l := ordered()
	var bad []cache.Entry
	for i, e := range l {
		keeps(t, c, e, fmt.Sprint(i))
		switch i % 4 {
		case 0:
			lay(t, f, nameOf(e), "nothing")
		case 1:
			lay(t, f, modelBlob(fmt.Sprint(i)), "spoilt")
		case 2:
			done(t, f.Remove(modelBlob(fmt.Sprint(i))))
		}
		if i%4 != 3 {
			bad = append(bad, e)
		}
	}
	for how, ahead := range ups() {
		g := f.Copy()
		c := opens(t, g)
		ahead(g)
		unchanged(t, how, g, func() {
			is(t, how+", List", toldEntries(c.List()), toldEntries(l))
			is(t, how+", Bad", toldEntries(c.Bad()), toldEntries(bad))
		})
	}
	eachBad(t, func(what string, x checked) { x.list() })
}

func TestP10_5_NoEntries(t *testing.T) {
	f, c := filled(t)
	for _, name := range noEntries() {
		lay(t, f, "cache/name/"+name, modelSay("x"))
	}
	x := checked{t, f, c, entries(one(), two(), three())}
	x.list()
	is(t, "List", toldEntries(c.List()), toldEntries(x.all))
	x.sweep(one(), three())
	x.sweep(one(), three())
	// What is no entry's name keeps no blob.
	x.sweep()
	for _, name := range noEntries() {
		is(t, "whether "+name+" is there", f.Has("cache/name/"+name), true)
	}
	is(t, "List", toldEntries(c.List()), "")
}

// strays is names of blobs that nobody says.
func strays() []string {
	d := modelDigits("x")
	return []string{"x", "a/b/c", d + "/x", d + ".mod", d[:63], d + "0", strings.ToUpper(d), modelDigits("stray"), "!", "name/a.b/@v/v1.0.0.mod"}
}

func TestP10_5_Sweep(t *testing.T) {
	all := entries(one(), two(), three())
	absent := entries(entry("a.b", "v1.0.0", "mod"), entry("a.b/C", "v1.0.0", "info"), entry("a.b/c", "v1.0.0", "mod"))
	for what, keep := range map[string][]cache.Entry{
		"none":        nil,
		"all":         all,
		"one":         entries(one()),
		"two":         entries(two()),
		"three":       entries(three()),
		"the same":    entries(one(), three()),
		"but one":     entries(two(), three()),
		"twice":       entries(one(), one(), two(), one()),
		"not there":   absent,
		"may not be":  wrongEntries(),
		"of all that": slices.Concat(wrongEntries(), absent, entries(three(), two(), three()), wrongEntries()),
	} {
		f, c := filled(t)
		x := checked{t, f, c, all}
		x.sweep(keep...)
		x.list()
		x.sweep(keep...)
		for _, name := range strays() {
			lay(t, f, "cache/blob/"+name, "stray")
		}
		x.sweep(keep...)
		for _, e := range all {
			is(t, what+", Has", c.Has(e), slices.Contains(keep, e))
		}
		f.Crash(0, 0)
		checked{t, f, opens(t, f), all}.sweep(keep...)
	}
}

// counts fails the test unless Sweep tells how many files went.
func counts(t *testing.T, what string, c *cache.Cache, keep []cache.Entry, want int) {
	t.Helper()
	n, errno := c.Sweep(keep)
	isError(t, "Sweep, "+what, errno, api.OK)
	is(t, "Sweep, "+what, n, want)
}

func TestP10_5_SweepCounts(t *testing.T) {
	f, c := fresh(t)
	counts(t, "nothing there", c, nil, 0)
	keeps(t, c, one(), "x")
	keeps(t, c, two(), "yy")
	keeps(t, c, three(), "x")
	counts(t, "all kept", c, entries(one(), two(), three()), 0)
	counts(t, "one of two names of a blob", c, entries(one(), two()), 1)
	counts(t, "a name and its blob", c, entries(one()), 2)
	for _, name := range strays() {
		lay(t, f, "cache/blob/"+name, "stray")
	}
	counts(t, "strays", c, entries(one()), len(strays()))
	counts(t, "none kept", c, nil, 2)
	counts(t, "again", c, nil, 0)
}

// A bad entry that is kept keeps the blob that it says, whatever that has.
func TestP10_5_SweepOfBad(t *testing.T) {
	eachBad(t, func(what string, x checked) {
		g := x.f.Copy()
		x.sweep(one())
		x.sweep()
		x = checked{x.t, g, opens(t, g), x.all}
		x.sweep(two(), three())
	})
	f, c := filled(t)
	lay(t, f, modelBlob("x"), "spoilt")
	counts(t, "a bad one kept", c, entries(one()), 3)
	is(t, "the blob", modelOf(f)[modelBlob("x")], "spoilt")
	lay(t, f, nameOf(one()), strings.ToUpper(modelSay("x")))
	counts(t, "a bad one kept that says nothing", c, entries(one()), 1)
	is(t, "Bad", toldEntries(c.Bad()), toldEntries(entries(one())))
}

func TestP10_5_SweepDown(t *testing.T) {
	f, c := fresh(t)
	downed(f)
	checked{t, f, c, nil}.sweep()
	f, c = filled(t)
	downed(f)
	x := checked{t, f, c, entries(one(), two(), three())}
	x.sweep()
	x.sweep(x.all...)
	n, errno := c.Sweep(nil)
	isError(t, "Sweep, down", errno, api.ErrDown)
	is(t, "Sweep, down", n, 0)
}

func TestP10_5_SweepQuota(t *testing.T) {
	all := entries(one(), two(), three())
	for _, keep := range [][]cache.Entry{nil, entries(one()), all} {
		was, _ := filled(t)
		l := modelOf(was).sweep(all, keep)
		size, _ := need(was, l)
		x := bounded(t, was, size-1)
		isError(t, "one beyond", refusal(x.f, l), api.ErrQuota)
		x.sweep(keep...)
		is(t, "List", toldEntries(x.c.List()), toldEntries(all))
		x = bounded(t, was, size)
		x.sweep(keep...)
		is(t, "how many are left", len(x.c.List()), len(keep))
	}
}

// More files than a transaction has changes can't go at once.
func TestP10_5_SweepMany(t *testing.T) {
	f, c := fresh(t)
	keeps(t, c, one(), "x")
	for i := range api.MaxChanges - 1 {
		lay(t, f, fmt.Sprint("cache/blob/", i), "")
	}
	n, errno := c.Sweep(nil)
	isError(t, "one beyond", errno, api.ErrMany)
	is(t, "one beyond", n, 0)
	is(t, "Files", len(f.List("")), api.MaxChanges+1)
	lay(t, f, "cache/blob/more", "")
	counts(t, "just as many", c, entries(one()), api.MaxChanges)
	peeks(t, "kept", c, one(), "x")
}
