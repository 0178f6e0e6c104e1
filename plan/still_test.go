package plan_test

import (
	"fmt"
	"strings"
	"testing"

	"mews/api"
	"mews/plan"
)

// A still universe is one.
var _ plan.Universe = (*plan.Still)(nil)

const stamp = "20200102030405-abcdefabcdef"

func TestP16_1_Versions(t *testing.T) {
	u := still(t, "b2:; b10:; b@v1.0.0-rc:; b0:; b@v1.0.0-2:; b@v0.0.0-"+stamp+":; b@v1.2.1-0."+stamp+":; d@v0.0.0-"+stamp+":; e@v1.2.0-0."+stamp+":; c/v2@v2.0.0:; c0:")
	for path, want := range map[string]string{
		"a.x/b": "v1.0.0-2 v1.0.0-rc v1.0.0 v1.2.0 v1.10.0",
		"a.x/c": "v1.0.0", "a.x/c/v2": "v2.0.0",
		// No base has a patch less, so it is no pseudo-version.
		"a.x/e": "v1.2.0-0." + stamp,
		// Sold, but at pseudo-versions alone.
		"a.x/d": "",
	} {
		l, e := u.Versions(path)
		is(t, "Versions of "+path, strings.Join(l, " "), want)
		is(t, "Versions of "+path+", error", e, api.OK)
	}
	for _, path := range []string{"", "a.x", "a.x/bb", "a.x/b/c", "a.x/z", "b", "a.x/c/v3"} {
		l, e := u.Versions(path)
		is(t, "Versions of "+path+", error", e, api.ErrNone)
		is(t, "Versions of "+path+", beside", len(l), 0)
	}
}

func TestP16_1_ManifestAndTree(t *testing.T) {
	l := []plan.Sold{
		{Mod: word("b0"), Manifest: []byte("no manifest"), Files: []api.File{file("z.go", "1"), file("a/a.go", ""), file("z.go", "2"), file("/../\x00", "3")}},
		{Mod: word("b@v0.0.0-" + stamp), Manifest: []byte("pseudo")},
		{Mod: word("c0")},
	}
	u := stillOf(t, l)
	for _, one := range l {
		text, e := u.Manifest(one.Mod)
		is(t, "Manifest of "+short(one.Mod), string(text), string(one.Manifest))
		is(t, "Manifest of "+short(one.Mod)+", error", e, api.OK)
		files, e := u.Tree(one.Mod)
		is(t, "Tree of "+short(one.Mod), toldFiles(files), toldFiles(one.Files))
		is(t, "Tree of "+short(one.Mod)+", error", e, api.OK)
	}
	for _, m := range append(mods("b1 d0 b/c0 a.x@v1.0.0"), api.Mod{}, api.Mod{Path: "a.x/b"}, api.Mod{Version: "v1.0.0"}) {
		text, e := u.Manifest(m)
		is(t, "Manifest of "+short(m)+", error", e, api.ErrNone)
		is(t, "Manifest of "+short(m)+", beside", len(text), 0)
		files, e := u.Tree(m)
		is(t, "Tree of "+short(m)+", error", e, api.ErrNone)
		is(t, "Tree of "+short(m)+", beside", len(files), 0)
	}
}

func TestP16_1_Nothing(t *testing.T) {
	for _, l := range [][]plan.Sold{nil, {}} {
		u := stillOf(t, l)
		_, e := u.Versions("a.x/b")
		is(t, "Versions of nothing", e, api.ErrNone)
		_, e = u.Manifest(word("b0"))
		is(t, "Manifest of nothing", e, api.ErrNone)
		_, e = u.Tree(word("b0"))
		is(t, "Tree of nothing", e, api.ErrNone)
		list, e := plan.List(project(""), u, 1)
		is(t, "List over nothing", told(list), "main")
		is(t, "List over nothing, error", e, api.OK)
	}
}

func TestP16_1_Errors(t *testing.T) {
	long := api.Mod{Path: "a.x/" + strings.Repeat("b", api.MaxPath), Version: "v1.0.0"}
	bad := map[api.Errno]api.Mod{
		api.ErrPath: {Path: "ab", Version: "v1.0.0"}, api.ErrVersion: {Path: "a.b", Version: "v1"},
		api.ErrMajor: {Path: "a.b", Version: "v2.0.0"}, api.ErrLong: long,
	}
	for want, m := range bad {
		for at := range 3 {
			l := sold("b0:; c0:; d0:")
			l[at].Mod = m
			refused(t, fmt.Sprint("NewStill of ", short(m), " at ", at), l, want)
		}
	}
	refused(t, "an empty module", []plan.Sold{{}}, api.ErrPath)
	refused(t, "without a version", []plan.Sold{{Mod: api.Mod{Path: "a.b"}}}, api.ErrVersion)
	refused(t, "the same module twice", sold("b0:; b0:"), api.ErrThere)
	refused(t, "the same module twice, otherwise", sold("b0: c0 / .; c0:; b0: / q"), api.ErrThere)
	refused(t, "the same module twice, far apart", sold("b0:; b1:; c0:; d0:; b0:"), api.ErrThere)
	// The first one counts.
	refused(t, "twice, then a bad one", append(sold("b0:; b0:"), plan.Sold{}), api.ErrThere)
	refused(t, "a bad one, then twice", append([]plan.Sold{{Mod: bad[api.ErrMajor]}}, sold("b0:; b0:")...), api.ErrMajor)
	refused(t, "a bad one twice", []plan.Sold{{Mod: bad[api.ErrVersion]}, {Mod: bad[api.ErrVersion]}}, api.ErrVersion)
	stillOf(t, sold("b0:; b1:; b/q0:; b@v1.0.0-rc:; a.x@v1.0.0:"))
}

func refused(t *testing.T, what string, l []plan.Sold, want api.Errno) {
	t.Helper()
	u, e := plan.NewStill(l)
	is(t, what+", error", e, want)
	is(t, what+", beside an error", u == nil, true)
}
