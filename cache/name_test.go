package cache_test

import (
	"strings"
	"testing"

	"mews/api"
	"mews/cache"
	"mews/fs"
	"mews/mod"
)

// letters is so many upper-case letters: each takes two bytes of a name.
func letters(count int) string { return strings.Repeat("Z", count) }

// wrongKinds is texts that are no kinds.
func wrongKinds() []string {
	return []string{"", "txt", "Mod", "MOD", "mo", "mods", "zip ", " zip", "inf", "info\n", ".mod", "mod/zip", "m\x00d", "mod.zip", "list"}
}

// wrongMod is a module that mod.Check refuses, with its error.
type wrongMod struct {
	mod   api.Mod
	errno api.Errno
}

// wrongMods is some, of each error.
func wrongMods() []wrongMod {
	return []wrongMod{
		{api.Mod{}, api.ErrPath},
		{api.Mod{Path: "a.b"}, api.ErrVersion},
		{api.Mod{Version: "v1.0.0"}, api.ErrPath},
		{api.Mod{Path: "ab/c", Version: "v1.0.0"}, api.ErrPath},
		{api.Mod{Path: "A.b/c", Version: "v1.0.0"}, api.ErrPath},
		{api.Mod{Path: "a.b/!c", Version: "v1.0.0"}, api.ErrPath},
		{api.Mod{Path: "a.b//c", Version: "v1.0.0"}, api.ErrPath},
		{api.Mod{Path: "a.b/../c", Version: "v1.0.0"}, api.ErrPath},
		{api.Mod{Path: "a.b/\u00e4", Version: "v1.0.0"}, api.ErrPath},
		{api.Mod{Path: "a.b/@v", Version: "v1.0.0"}, api.ErrPath},
		{api.Mod{Path: "../a.b", Version: "v1.0.0"}, api.ErrPath},
		{api.Mod{Path: "a.b", Version: "1.0.0"}, api.ErrVersion},
		{api.Mod{Path: "a.b", Version: "v1.0"}, api.ErrVersion},
		{api.Mod{Path: "a.b", Version: "v01.0.0"}, api.ErrVersion},
		{api.Mod{Path: "a.b", Version: "v1.0.0-"}, api.ErrVersion},
		{api.Mod{Path: "a.b", Version: "v1.0.0+x"}, api.ErrVersion},
		{api.Mod{Path: "a.b", Version: "v1.0.0/../x"}, api.ErrVersion},
		{api.Mod{Path: "a.b", Version: "v2.0.0"}, api.ErrMajor},
		{api.Mod{Path: "a.b/v2", Version: "v1.0.0"}, api.ErrMajor},
		{api.Mod{Path: "a.b/v1", Version: "v1.0.0"}, api.ErrMajor},
		{api.Mod{Path: "a.b/v3", Version: "v2.0.0"}, api.ErrMajor},
		{api.Mod{Path: "a.b/" + strings.Repeat("c", 97)}, api.ErrLong},
		{api.Mod{Path: "ab" + strings.Repeat("c", 97), Version: "v1.0.0"}, api.ErrPath},
		{api.Mod{Path: strings.Repeat("!", 101), Version: "v"}, api.ErrLong},
		{api.Mod{Path: "a.b", Version: "v1.0.0-" + strings.Repeat("a", 54)}, api.ErrVersion},
		{api.Mod{Path: "a.b/v2", Version: "v3.0.0-" + strings.Repeat("a", 54)}, api.ErrVersion},
		{api.Mod{Path: "a.b/" + letters(96), Version: "v2.0.0-" + letters(53)}, api.ErrMajor},
		{api.Mod{Path: "a.b/" + letters(93) + "/v2", Version: "v1.0.0" + letters(9)}, api.ErrVersion},
	}
}

// wrongEntries is entries that have no name.
func wrongEntries() []cache.Entry {
	l := entries(entry("a.b/"+letters(96), "v1.0.0-"+letters(53), "mod"))
	for _, kind := range wrongKinds() {
		l = append(l, entry("a.b/C", "v1.0.0", kind), entry("/", "v", kind))
	}
	for _, w := range wrongMods() {
		l = append(l, cache.Entry{Mod: w.mod, Kind: "mod"}, cache.Entry{Mod: w.mod, Kind: "zip"}, cache.Entry{Mod: w.mod, Kind: "info"})
	}
	return l
}

// names fails the test unless NameOf is a name.
func names(t *testing.T, c *cache.Cache, e cache.Entry, want string) {
	t.Helper()
	name, errno := c.NameOf(e)
	isError(t, "NameOf "+brief(e), errno, api.OK)
	is(t, "NameOf "+brief(e), name, want)
}

// namesNot fails the test unless every call of an entry answers an error, with
// nothing beside it, and changes nothing.
func namesNot(t *testing.T, f *fs.FS, c *cache.Cache, e cache.Entry, want api.Errno) {
	t.Helper()
	before := f.Steps()
	name, errno := c.NameOf(e)
	isError(t, "NameOf "+brief(e), errno, want)
	is(t, "NameOf "+brief(e), name, "")
	peeksNot(t, brief(e), c, e, want)
	getsNot(t, brief(e), c, e, want)
	isError(t, "Put of "+brief(e), c.Put(e, []byte("x")), want)
	is(t, "steps of "+brief(e), f.Steps(), before)
}

func TestP10_2_NameOf(t *testing.T) {
	_, c := fresh(t)
	names(t, c, entry("a.b", "v1.0.0", "mod"), "cache/name/a.b/@v/v1.0.0.mod")
	names(t, c, entry("a.b", "v0.0.0", "zip"), "cache/name/a.b/@v/v0.0.0.zip")
	names(t, c, entry("a.b/CdE/f_~G", "v1.2.3-Rc.1-X", "info"), "cache/name/a.b/!cd!e/f_~!g/@v/v1.2.3-!rc.1-!x.info")
	names(t, c, entry("a.b/v2", "v2.0.0", "zip"), "cache/name/a.b/v2/@v/v2.0.0.zip")
	names(t, c, entry("a.b/mod", "v1.0.0-mod", "mod"), "cache/name/a.b/mod/@v/v1.0.0-mod.mod")
	names(t, c, entry("1.2", "v1.0.0-zip.info", "mod"), "cache/name/1.2/@v/v1.0.0-zip.info.mod")
}

func TestP10_2_Kinds(t *testing.T) {
	f, c := filled(t)
	for _, kind := range wrongKinds() {
		namesNot(t, f, c, entry("a.b/C", "v1.0.0", kind), api.ErrKind)
		// A kind that is none is told ahead of whatever is wrong with the module.
		for _, w := range wrongMods() {
			namesNot(t, f, c, cache.Entry{Mod: w.mod, Kind: kind}, api.ErrKind)
		}
		namesNot(t, f, c, entry("a.b/"+letters(96), "v1.0.0-"+letters(53), kind), api.ErrKind)
	}
}

func TestP10_2_Modules(t *testing.T) {
	f, c := filled(t)
	met := map[api.Errno]int{}
	for _, w := range wrongMods() {
		isError(t, "mod.Check of "+brief(w.mod), mod.Check(w.mod), w.errno)
		met[w.errno]++
		for _, kind := range []string{"mod", "zip", "info"} {
			namesNot(t, f, c, cache.Entry{Mod: w.mod, Kind: kind}, w.errno)
		}
	}
	for _, errno := range []api.Errno{api.ErrLong, api.ErrPath, api.ErrMajor, api.ErrVersion} {
		is(t, "whether an error was met", met[errno] > 0, true)
	}
}

// long is an entry of a kind whose name in the directory cache is so long.
func long(kind string, length int) cache.Entry {
	e := entry("a.b/"+letters(96), "v1.0.0-", kind)
	rest := length - len("cache/name/") - 4 - 2*96 - len("/@v/") - len("v1.0.0-") - len(".") - len(kind)
	e.Mod.Version += strings.Repeat("a", rest)
	return e
}

func TestP10_2_Longest(t *testing.T) {
	for _, kind := range []string{"mod", "zip", "info"} {
		f, c := fresh(t)
		for _, length := range []int{api.MaxName - 1, api.MaxName} {
			e := long(kind, length)
			name, errno := c.NameOf(e)
			isError(t, "NameOf", errno, api.OK)
			is(t, "the name's length", len(name), length)
			keeps(t, c, e, "data")
			peeks(t, "a long name", c, e, "data")
		}
		is(t, "List", toldEntries(c.List()), toldEntries(entries(long(kind, api.MaxName-1), long(kind, api.MaxName))))
		for _, length := range []int{api.MaxName + 1, api.MaxName + 2, api.MaxName + 10} {
			namesNot(t, f, c, long(kind, length), api.ErrName)
		}
		n, errno := c.Sweep(entries(long(kind, api.MaxName), long(kind, api.MaxName+1)))
		isError(t, "Sweep", errno, api.OK)
		is(t, "Sweep", n, 1)
	}
}

// How long a name may be hangs on the directory.
func TestP10_2_LongDirectories(t *testing.T) {
	most := api.MaxName - len("/name/a.b/@v/v1.0.0.mod")
	e := entry("a.b", "v1.0.0", "mod")
	for length := most - 2; length <= most+2; length++ {
		f := fs.New(10000)
		c, errno := cache.Open(f, strings.Repeat("d", length))
		isError(t, "Open", errno, api.OK)
		is(t, "BlobOf", c.BlobOf(nil), strings.Repeat("d", length)+"/blob/"+modelDigits(""))
		if length > most {
			namesNot(t, f, c, e, api.ErrName)
			continue
		}
		names(t, c, e, strings.Repeat("d", length)+"/name/a.b/@v/v1.0.0.mod")
		// There is room for the name, but not for a blob.
		unchanged(t, "Put", f, func() { isError(t, "Put", c.Put(e, nil), api.ErrName) })
		peeksNot(t, "not there", c, e, api.ErrNone)
		name, _ := c.NameOf(e)
		lay(t, f, name, modelSay("x"))
		peeksNot(t, "a blob that can't be", c, e, api.ErrCorrupt)
		getsNot(t, "a blob that can't be", c, e, api.ErrCorrupt)
		is(t, "Files", told(f.Files()), "")
	}
}

// A blob's name may be just as long as a file's.
func TestP10_2_LongestBlob(t *testing.T) {
	most := api.MaxName - len("/blob/") - 64
	for length := most - 1; length <= most+1; length++ {
		f := fs.New(10000)
		c, _ := cache.Open(f, strings.Repeat("d", length))
		e := entry("a.b", "v1.0.0", "mod")
		if length > most {
			isError(t, "Put", c.Put(e, []byte("x")), api.ErrName)
			is(t, "Files", told(f.Files()), "")
			continue
		}
		keeps(t, c, e, "x")
		peeks(t, "a long directory", c, e, "x")
		lay(t, f, c.BlobOf([]byte("x")), "spoilt")
		getsNot(t, "spoilt", c, e, api.ErrCorrupt)
		is(t, "Files", told(f.Files()), strings.Repeat("d", length)+"/bad/"+modelDigits("x")+"=spoilt")
	}
}

func TestP10_2_BlobOf(t *testing.T) {
	f, c := fresh(t)
	data := ""
	for range 140 {
		is(t, "BlobOf", c.BlobOf([]byte(data)), "cache/blob/"+modelDigits(data))
		data += "\x00\xffa\n"[len(data)%4:][:1]
	}
	is(t, "BlobOf of nothing", c.BlobOf(nil), "cache/blob/e3b0c44298fc1c149afbf4c8996fb92427ae41e4649b934ca495991b7852b855")
	is(t, "steps", f.Steps(), 0)
}
