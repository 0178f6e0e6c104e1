package cache_test

import (
	"slices"
	"strings"
	"testing"

	"mews/api"
	"mews/cache"
	"mews/fs"
)

// The marks that lie behind lists, and that are written into answers.
const (
	roomByte   = 0xa5
	spoiltByte = 0x5a
)

// roomy is the list with spare room behind it, filled with a mark.
func roomy[T any](list []T, mark T) []T {
	whole := slices.Clone(list)
	for range 100 {
		whole = append(whole, mark)
	}
	return whole[:len(list)]
}

// whole is the list with what lies behind it.
func whole[T any](list []T) []T { return list[:cap(list)] }

// spoil writes into all the memory of a list.
func spoil[T any](list []T, mark T) {
	for i := range whole(list) {
		whole(list)[i] = mark
	}
	_ = append(list, mark, mark)
}

func TestP10_6_DataHandedIn(t *testing.T) {
	f, c := filled(t)
	data := roomy([]byte("data"), roomByte)
	before := string(whole(data))
	e := entry("a.b", "v1.0.0", "mod")
	is(t, "BlobOf", c.BlobOf(data), modelBlob("data"))
	isError(t, "Put", c.Put(e, data), api.OK)
	isError(t, "Put again", c.Put(e, data), api.OK)
	isError(t, "Put of another", c.Put(one(), data), api.ErrMismatch)
	is(t, "the data that were handed in", string(whole(data)), before)
	spoil(data, spoiltByte)
	peeks(t, "the data spoilt", c, e, "data")
	has(t, "the data spoilt", f, modelOf(f))
	f.Crash(0, 0)
	peeks(t, "behind a crash", opens(t, f), e, "data")
}

// A Put that was interrupted keeps nothing of the data, either.
func TestP10_6_Interrupted(t *testing.T) {
	for step := 1; ; step++ {
		f, c := filled(t)
		data := roomy([]byte("data"), roomByte)
		e := entry("a.b", "v1.0.0", "mod")
		f.Arm(step)
		errno := c.Put(e, data)
		if errno != api.OK {
			isDown(t, "Put", f, errno)
		}
		spoil(data, spoiltByte)
		f.Crash(100, 1000)
		if c := opens(t, f); c.Has(e) {
			peeks(t, "the data spoilt", c, e, "data")
		} else {
			peeksNot(t, "the data spoilt", c, e, api.ErrNone)
		}
		if errno == api.OK {
			return
		}
	}
}

func TestP10_6_KeepHandedIn(t *testing.T) {
	f, c := filled(t)
	// What lies behind the list would be kept.
	keep := roomy(entries(three(), wrongEntries()[0], one(), one()), two())
	before := toldEntries(whole(keep))
	counts(t, "two", c, keep, 2)
	is(t, "the entries that were handed in", toldEntries(whole(keep)), before)
	spoil(keep, two())
	is(t, "List", toldEntries(c.List()), toldEntries(entries(one(), three())))
	counts(t, "none", c, keep[:0], 3)
	is(t, "List", toldEntries(c.List()), "")
	is(t, "blobs", len(f.List("cache/blob")), 0)
}

// apart fails the test unless two answers of a call have memory of their own,
// which the call's next answer doesn't see either.
func apart[T any](t *testing.T, what string, mark T, ask func() []T, tell func(l []T) string) {
	t.Helper()
	first, second := ask(), ask()
	want := tell(second)
	spoil(first, mark)
	is(t, what+", the other answer", tell(second), want)
	is(t, what+", asked again", tell(ask()), want)
}

func tellBytes(b []byte) string { return string(b) }

func TestP10_6_ListsHandedOut(t *testing.T) {
	for _, e := range entries(two(), three()) {
		f, _ := filled(t)
		lay(t, f, modelBlob("yy"), "spoilt")
		keeps(t, opens(t, f), two(), "yy and much more of it")
		done(t, f.Remove(modelBlob("x")))
		lay(t, f, nameOf(three()), modelSay("data"), modelBlob("data"), "data")
		for _, c := range []*cache.Cache{opens(t, f), views(t, f)} {
			unchanged(t, "what is written into answers", f, func() {
				apart(t, "List", one(), c.List, toldEntries)
				apart(t, "Bad", two(), c.Bad, toldEntries)
				apart(t, "Peek", spoiltByte, func() []byte { b, _ := c.Peek(e); return b }, tellBytes)
				apart(t, "Get", spoiltByte, func() []byte { b, _ := c.Get(e); return b }, tellBytes)
			})
		}
	}
}

// What a list that was handed out says is not what Sweep, handed it, changes.
func TestP10_6_ListHandedBack(t *testing.T) {
	_, c := filled(t)
	l := c.List()
	counts(t, "all", c, l, 0)
	is(t, "the list", toldEntries(l), toldEntries(entries(one(), two(), three())))
	counts(t, "none", c, l[:0], 5)
	is(t, "the list", toldEntries(l), toldEntries(entries(one(), two(), three())))
}

// foreign is a file system's files but those of the cache's own.
func foreign(f *fs.FS) string {
	m := modelOf(f)
	for _, e := range append(ordered(), one(), two(), three()) {
		delete(m, nameOf(e))
	}
	for name := range m {
		if strings.HasPrefix(name, "cache/blob/") || name == "cache/bad/"+modelDigits("other") {
			delete(m, name)
		}
	}
	return told(modelFiles(m))
}

func TestP10_6_OtherFiles(t *testing.T) {
	f, c := filled(t)
	for _, name := range noEntries() {
		lay(t, f, "cache/name/"+name, modelSay("x"))
	}
	durable(f)
	want := foreign(f)
	for i, e := range ordered() {
		if !c.Has(e) {
			keeps(t, c, e, []string{"x", "other"}[i%2])
		}
	}
	lay(t, f, modelBlob("other"), "spoilt")
	for _, e := range c.Bad() {
		getsNot(t, "bad", c, e, api.ErrCorrupt)
	}
	is(t, "other files, behind Get", foreign(f), want)
	_, errno := c.Sweep(entries(one()))
	isError(t, "Sweep", errno, api.OK)
	_, errno = c.Sweep(nil)
	isError(t, "Sweep", errno, api.OK)
	is(t, "other files, behind Sweep", foreign(f), want)
	is(t, "the journal's file", f.Has(journalFile), false)
	f.Crash(0, 0)
	opens(t, f)
	is(t, "other files, behind a crash", foreign(f), want)
}
