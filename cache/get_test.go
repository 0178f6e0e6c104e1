package cache_test

import (
	"strings"
	"testing"

	"mews/api"
	"mews/fs"
)

func TestP10_4_NotThere(t *testing.T) {
	for how, ahead := range ups() {
		f, c := filled(t)
		done(t, f.Remove(nameOf(one())))
		ahead(f)
		unchanged(t, how, f, func() {
			peeksNot(t, how, c, one(), api.ErrNone)
			getsNot(t, how, c, one(), api.ErrNone)
			peeksNot(t, how+", another version", c, entry("a.b/C", "v1.0.1", "mod"), api.ErrNone)
			peeksNot(t, how+", another path", c, entry("a.b/c", "v1.0.0", "mod"), api.ErrNone)
			peeksNot(t, how+", another kind", c, entry("a.b/C", "v1.0.0", "info"), api.ErrNone)
		})
	}
}

func TestP10_4_Whole(t *testing.T) {
	for how, ahead := range ups() {
		f, c := filled(t)
		ahead(f)
		unchanged(t, how, f, func() {
			peeks(t, how, c, one(), "x")
			peeks(t, how, c, two(), "yy")
			peeks(t, how, c, three(), "x")
		})
	}
}

// Somebody else may have written it.
func TestP10_4_WrittenByOthers(t *testing.T) {
	f, c := fresh(t)
	lay(t, f, nameOf(one()), modelSay(""), modelBlob(""), "")
	peeks(t, "written by others", c, one(), "")
	lay(t, f, nameOf(one()), modelSay("data"), modelBlob("data"), "data")
	peeks(t, "written by others", c, one(), "data")
}

func TestP10_4_Bad(t *testing.T) {
	eachBad(t, func(what string, x checked) {
		x.peek(one())
		peeksNot(t, what, x.c, one(), api.ErrCorrupt)
		x.get(one())
		peeksNot(t, what+", behind Get", x.c, one(), api.ErrNone)
		x.get(one())
		peeks(t, what+", another one", x.c, two(), "yy")
		x.put(one(), "x")
		peeks(t, what+", behind Put", x.c, one(), "x")
	})
}

// What stands at the place where a bad blob goes goes.
func TestP10_4_BadTwice(t *testing.T) {
	f, c := filled(t)
	bad := "cache/bad/" + modelDigits("x")
	for _, spoilt := range []string{"once", "", "twice", modelSay("x")} {
		lay(t, f, modelBlob("x"), spoilt)
		getsNot(t, "spoilt", c, one(), api.ErrCorrupt)
		b, errno := f.Read(bad)
		isError(t, "the bad blob", errno, api.OK)
		is(t, "the bad blob", string(b), spoilt)
		is(t, "whether the blob is there", f.Has(modelBlob("x")), false)
		keeps(t, c, one(), "x")
		peeks(t, "kept again", c, one(), "x")
	}
}

// Two names say one blob. Where it is bad, both entries are; Get of the one
// leaves the other bad, without a blob.
func TestP10_4_TwoNames(t *testing.T) {
	f, c := filled(t)
	x := checked{t, f, c, entries(one(), two(), three())}
	lay(t, f, modelBlob("x"), "spoilt")
	x.list()
	x.get(one())
	x.list()
	is(t, "Bad", toldEntries(c.Bad()), toldEntries(entries(three())))
	x.get(three())
	is(t, "List", toldEntries(c.List()), toldEntries(entries(two())))
	is(t, "the bad blob", modelOf(f)["cache/bad/"+modelDigits("x")], "spoilt")
}

// Where one of two names says its blob no more, the blob stays for the other.
func TestP10_4_OneOfTwoNames(t *testing.T) {
	for what, text := range badForms() {
		f, c := filled(t)
		lay(t, f, nameOf(one()), text)
		getsNot(t, what, c, one(), api.ErrCorrupt)
		peeks(t, what+", the other", c, three(), "x")
		is(t, what+", bad ones", len(f.List("cache/bad")), 1)
	}
}

// A name's file that says no blob neither moves nor keeps a file that is called
// what stands in it.
func TestP10_4_NoBlobSaid(t *testing.T) {
	met := 0
	for what, text := range badForms() {
		lookalike := "cache/blob/" + strings.TrimSuffix(text, "\n")
		if !fs.Valid(lookalike) || lookalike == modelBlob("x") {
			continue
		}
		met++
		f, c := filled(t)
		lay(t, f, nameOf(one()), text, lookalike, "stays")
		x := checked{t, f, c, entries(one(), two(), three())}
		g := f.Copy()
		x.get(one())
		is(t, what+", whether it stays", f.Has(lookalike), true)
		x = checked{t, g, opens(t, g), x.all}
		x.sweep(x.all...)
		is(t, what+", whether it is swept", g.Has(lookalike), false)
	}
	is(t, "whether some were met", met > 10, true)
}

// Put of one entry mends the blob of another one, too.
func TestP10_4_MendedByAnother(t *testing.T) {
	f, c := filled(t)
	lay(t, f, modelBlob("x"), "spoilt")
	keeps(t, c, one(), "x")
	peeks(t, "the other", c, three(), "x")
}

func TestP10_4_Down(t *testing.T) {
	eachBad(t, func(what string, x checked) {
		downed(x.f)
		x.peek(one())
		x.get(one())
		getsNot(t, what+", down", x.c, one(), api.ErrDown)
	})
}

// aBad is a file system whose entry one is bad: its blob is gone, or another.
func aBad(t *testing.T, blobThere bool) *fs.FS {
	t.Helper()
	f, _ := filled(t)
	lay(t, f, modelBlob("x"), "spoilt")
	if !blobThere {
		done(t, f.Remove(modelBlob("x")))
	}
	return f
}

func TestP10_4_Quota(t *testing.T) {
	for _, there := range []bool{true, false} {
		was := aBad(t, there)
		l := modelOf(was).aside(one())
		size, _ := need(was, l)
		x := bounded(t, was, size-1)
		isError(t, "one beyond", refusal(x.f, l), api.ErrQuota)
		x.get(one())
		peeksNot(t, "one beyond", x.c, one(), api.ErrCorrupt)
		x = bounded(t, was, size)
		x.get(one())
		peeksNot(t, "just at the quota", x.c, one(), api.ErrNone)
	}
}

func TestP10_4_Files(t *testing.T) {
	f, c := crowded(t, api.MaxFiles-1)
	lay(t, f, modelBlob("x"), "spoilt")
	before := told(f.Files())
	getsNot(t, "one beyond", c, one(), api.ErrQuota)
	is(t, "the files", told(f.Files()), before)
	f, c = crowded(t, api.MaxFiles-2)
	lay(t, f, modelBlob("x"), "spoilt")
	getsNot(t, "just as many", c, one(), api.ErrCorrupt)
	getsNot(t, "just as many, again", c, one(), api.ErrNone)
}
