package sumfile_test

import (
	"fmt"
	"slices"
	"strings"
	"testing"

	"mews/api"
	"mews/sumfile"
)

func TestExamplesOfVendorLists(t *testing.T) {
	parsesVendor(t, lines("# a.b/c v1.0.0", "## explicit", "a.b/c/d"), []sumfile.Vendored{vendored("a.b/c v1.0.0 explicit", "a.b/c/d")})
	refusesVendor(t, lines("a.b/c"), 1, api.ErrSyntax)
	refusesVendor(t, lines("# a.b/c v1.0.0", "x.y/z"), 2, api.ErrForm)
}

func TestP5_4_Lists(t *testing.T) {
	longImport := filled("a.b/+", api.MaxPath)
	for text, want := range map[string][]sumfile.Vendored{
		"":                                     nil,
		lines("# a.b/c v1.0.0"):                {vendored("a.b/c v1.0.0")},
		lines("# a.b/c v1.0.0", "## explicit"): {vendored("a.b/c v1.0.0 explicit")},
		lines("# a.b/c v1.0.0", "a.b/c"):       {vendored("a.b/c v1.0.0", "a.b/c")},
		lines("# a.b/c v1.0.0", "## explicit", "a.b/c"): {vendored("a.b/c v1.0.0 explicit", "a.b/c")},
		// Packages rise byte by byte.
		lines("# a.b v1.0.0", "a.b/b", "a.b", "a.b/a/b", "a.b/B", "a.b/a", "a.b/a+b", "a.b/a-b"): {vendored("a.b v1.0.0", "a.b", "a.b/B", "a.b/a", "a.b/a+b", "a.b/a-b", "a.b/a/b", "a.b/b")},
		lines("# "+longPath+" v1.0.0", longPath):                                                 {vendored(longPath+" v1.0.0", longPath)},
		lines("# a.b "+longVersion, longImport):                                                  {vendored("a.b "+longVersion, longImport)},
		lines("# a.b/v2 v2.0.0", "a.b/v2/c", "a.b/v2/v1"):                                        {vendored("a.b/v2 v2.0.0", "a.b/v2/c", "a.b/v2/v1")},
		// Modules by path and version, each with what was its own.
		lines("# x.y v1.0.0", "x.y/b", "x.y", "# a.b/c v1.0.0", "## explicit", "a.b/c/d"):                                 {vendored("a.b/c v1.0.0 explicit", "a.b/c/d"), vendored("x.y v1.0.0", "x.y", "x.y/b")},
		lines("# a.b v1.10.0", "## explicit", "# a.b v1.9.0", "a.b/x", "# a.b v1.10.0-rc.1", "a.b/x", "# a.a v1.0.0"):     {vendored("a.a v1.0.0"), vendored("a.b v1.9.0", "a.b/x"), vendored("a.b v1.10.0-rc.1", "a.b/x"), vendored("a.b v1.10.0 explicit")},
		lines("# a.b/c v1.0.0", "a.b/c/d", "# a.b v1.0.0", "a.b/c/d", "# a.b/c/d v1.0.0", "## explicit", "a.b/c/d"):       {vendored("a.b v1.0.0", "a.b/c/d"), vendored("a.b/c v1.0.0", "a.b/c/d"), vendored("a.b/c/d v1.0.0 explicit", "a.b/c/d")},
		lines("# x.y v1.0.0", "## explicit", "# x.y v1.1.0", "## explicit", "x.y", "# x.y v1.2.0", "x.y", "# x.y v0.0.0"): {vendored("x.y v0.0.0"), vendored("x.y v1.0.0 explicit"), vendored("x.y v1.1.0 explicit", "x.y"), vendored("x.y v1.2.0", "x.y")},
		lines("# explicit.x v1.0.0", "explicit.x/explicit", "# go.mod v1.0.0", "go.mod/go.mod"):                           {vendored("explicit.x v1.0.0", "explicit.x/explicit"), vendored("go.mod v1.0.0", "go.mod/go.mod")},
	} {
		parsesVendor(t, text, want)
	}
}

func TestP5_4_LinesAtFault(t *testing.T) {
	over := strings.Repeat("a", api.MaxLine+1)
	module, good := "# a.b/c v1.0.0", "a.b/c/good"
	for line, e := range map[string]api.Errno{
		"": api.ErrSyntax, "#": api.ErrSyntax, "# ": api.ErrSyntax, "#  ": api.ErrSyntax, "#   ": api.ErrSyntax, "##": api.ErrSyntax, "## ": api.ErrSyntax, "###": api.ErrSyntax, "# x.y": api.ErrSyntax, "# x.y ": api.ErrSyntax, "#  v1.0.0": api.ErrSyntax, "#  x.y v1.0.0": api.ErrSyntax, "# x.y  v1.0.0": api.ErrSyntax, "# x.y v1.0.0 ": api.ErrSyntax, "# x.y v1.0.0 x": api.ErrSyntax, "# x.y v1.0.0 explicit": api.ErrSyntax,
		"#x.y v1.0.0": api.ErrSyntax, "#\tx.y v1.0.0": api.ErrSyntax, "# x.y\tv1.0.0": api.ErrSyntax, "## x.y v1.0.0": api.ErrSyntax, "##  explicit": api.ErrSyntax, "##explicit": api.ErrSyntax, "## explicit ": api.ErrSyntax, "## Explicit": api.ErrSyntax, "## explicitly": api.ErrSyntax, "## explicit; go 1.17": api.ErrSyntax, "### explicit": api.ErrSyntax, "# explicit": api.ErrSyntax, "#a.b/c": api.ErrSyntax, "## explicit\r": api.ErrSyntax, "#" + over: api.ErrSyntax, "## explici": api.ErrSyntax,
		"# xy v1.0.0": api.ErrPath, "# # explicit": api.ErrPath, "# \tx.y v1.0.0": api.ErrPath, "# x.y/ v1.0.0": api.ErrPath, "# " + overPath + " v1.0.0": api.ErrLong, "# " + over + " x": api.ErrLong, "# x.y/v1 v1.0.0": api.ErrMajor, "# x.y v2.0.0": api.ErrMajor, "# x.y/v2 v1.0.0": api.ErrMajor,
		"# x.y v1": api.ErrVersion, "# x.y v1.0.0\r": api.ErrVersion, "# x.y v1.0.0/go.mod": api.ErrVersion, "# x.y " + overVersion: api.ErrVersion, "# x.y " + sumA: api.ErrVersion,
		module: api.ErrTwice, "# x.y v1.0.0": api.ErrTwice,
		" ": api.ErrPath, "a.b/c/": api.ErrPath, "a.b/c/ d": api.ErrPath, " a.b/c": api.ErrPath, "a.b/c ": api.ErrPath, "a.b/c\r": api.ErrPath, "a.b//c": api.ErrPath, "/a.b/c": api.ErrPath, "a.b/c/.d": api.ErrPath, "a.b/c v1.0.0": api.ErrPath, "a.b/c#": api.ErrPath, " ## explicit": api.ErrPath, "\x00": api.ErrPath, "\xff": api.ErrPath, "a.b/c/é": api.ErrPath, "\t": api.ErrPath,
		filled("a.b/c/", api.MaxPath+1): api.ErrLong, over: api.ErrLong, over + " ": api.ErrLong,
		"x.y/z": api.ErrForm, "x.y": api.ErrForm, "a.b": api.ErrForm, "a.b/cd": api.ErrForm, "a.b/c-d": api.ErrForm, "a.b/c.d": api.ErrForm, "a.b/d": api.ErrForm, "a": api.ErrForm, "A.b/c": api.ErrForm, "a.b/C": api.ErrForm, "c": api.ErrForm, "x/a.b/c": api.ErrForm, "v1.0.0": api.ErrForm, "explicit": api.ErrForm, "a.b/c+": api.ErrForm,
		good: api.ErrTwice,
	} {
		ahead := lines("# x.y v1.0.0", "x.y", module, good)
		refusesVendor(t, ahead+lines(line), 5, e)
		refusesVendor(t, ahead+lines(line, good, "", "#"), 5, e)
		refusesVendor(t, ahead+lines("a.b/c", line), 6, e)
		refusesVendor(t, ahead+lines("", line), 5, api.ErrSyntax)
		if line != "" {
			refusesVendor(t, ahead+line, 5, e)
		}
		if e == api.ErrSyntax || e == api.ErrPath || e == api.ErrVersion || e == api.ErrMajor {
			first := e
			if !strings.HasPrefix(line, "#") {
				first = api.ErrSyntax // it stands ahead of the first module
			}
			refusesVendor(t, lines(line), 1, first)
			refusesVendor(t, lines(line, module, good), 1, first)
			refusesVendor(t, lines(module, line), 2, e)
		}
	}
}

func TestP5_4_AheadOfTheFirstModule(t *testing.T) {
	for _, line := range []string{"a.b", "## explicit", "x", " ", "a b", strings.Repeat("a", api.MaxPath+1), "\xff"} {
		refusesVendor(t, lines(line), 1, api.ErrSyntax)
		refusesVendor(t, line, 1, api.ErrSyntax)
		refusesVendor(t, lines(line, "# a.b v1.0.0"), 1, api.ErrSyntax)
	}
}

func TestP5_4_Explicit(t *testing.T) {
	refusesVendor(t, lines("# a.b v1.0.0", "## explicit", "## explicit"), 3, api.ErrSyntax)
	refusesVendor(t, lines("# a.b v1.0.0", "a.b", "## explicit"), 3, api.ErrSyntax)
	refusesVendor(t, lines("# a.b v1.0.0", "## explicit", "a.b", "## explicit"), 4, api.ErrSyntax)
	refusesVendor(t, lines("# a.b v1.0.0", "## explicit", "# a.c v1.0.0", "a.c", "## explicit"), 5, api.ErrSyntax)
	refusesVendor(t, lines("# a.b v1.0.0", "", "## explicit"), 2, api.ErrSyntax)
	parsesVendor(t, lines("# a.b v1.0.0", "# a.c v1.0.0", "## explicit"), []sumfile.Vendored{vendored("a.b v1.0.0"), vendored("a.c v1.0.0 explicit")})
}

func TestP5_4_Twice(t *testing.T) {
	refusesVendor(t, lines("# a.b v1.0.0", "# a.b v1.0.0"), 2, api.ErrTwice)
	refusesVendor(t, lines("# a.b v1.0.0", "a.b", "# a.c v1.0.0", "## explicit", "# a.b v1.0.0"), 5, api.ErrTwice)
	refusesVendor(t, lines("# a.b v1.0.0", "a.b", "a.b/c", "a.b"), 4, api.ErrTwice)
	refusesVendor(t, lines("# a.b v1.0.0", "a.b", "a.b", "a.c"), 3, api.ErrTwice)
	parsesVendor(t, lines("# a.b v1.0.0", "a.b/c", "# a.b v1.1.0", "a.b/c"), []sumfile.Vendored{vendored("a.b v1.0.0", "a.b/c"), vendored("a.b v1.1.0", "a.b/c")})
	refusesVendor(t, lines("# a.b v1.0.0", "a.b/c", "# a.b v1.1.0", "a.b/c", "a.b/c"), 5, api.ErrTwice)
}

func TestP5_4_TheLastNewline(t *testing.T) {
	refusesVendor(t, "# a.b v1.0.0", 1, api.ErrSyntax)
	refusesVendor(t, "# a.b v1.0.0\n## explicit", 2, api.ErrSyntax)
	refusesVendor(t, "# a.b v1.0.0\na.b", 2, api.ErrSyntax)
	refusesVendor(t, "# a.b v1.0.0\n# a.b v1.0.0", 2, api.ErrTwice)
	refusesVendor(t, "# a.b v1.0.0\na.b\na.b", 3, api.ErrTwice)
	refusesVendor(t, "# a.b v1.0.0\na.c", 2, api.ErrForm)
	refusesVendor(t, "# a.b v1.0.0\n\n", 2, api.ErrSyntax)
	refusesVendor(t, "\n", 1, api.ErrSyntax)
	refusesVendor(t, "\n# a.b v1.0.0\n", 1, api.ErrSyntax)
	refusesVendor(t, "# a.b v1.0.0\r\n", 1, api.ErrVersion)
}

// vendorOf is a vendor list whose text has just so many bytes (300 at least), in order.
func vendorOf(size int) ([]sumfile.Vendored, string) {
	v := vendored("a.b v1.0.0 explicit")
	text := strings.Builder{}
	text.WriteString(lines("# a.b v1.0.0", "## explicit"))
	add := func(size int) {
		path := filled(fmt.Sprintf("a.b/%06d", len(v.Packages)), size-1)
		v.Packages = append(v.Packages, path)
		text.WriteString(path + "\n")
	}
	for size-text.Len() > 100 {
		add(50)
	}
	left := size - text.Len()
	add(left / 2)
	add(left - left/2)
	return []sumfile.Vendored{v}, text.String()
}

// modulesOf is a list of so many modules without packages, in order, and its text.
func modulesOf(count int) ([]sumfile.Vendored, string) {
	var l []sumfile.Vendored
	var text strings.Builder
	for i := range count {
		m := fmt.Sprintf("x.y/%06d v1.0.0", i)
		l = append(l, vendored(m))
		text.WriteString("# " + m + "\n")
	}
	return l, text.String()
}

func TestP5_4_TextsAtTheBound(t *testing.T) {
	l, text := vendorOf(api.MaxText)
	is(t, "its bytes", len(text), api.MaxText)
	parsesVendor(t, text, l)
	formatsVendor(t, l, text, api.OK)
	refusesVendor(t, text[:len(text)-1], len(l[0].Packages)+2, api.ErrSyntax)
	refusesVendor(t, strings.Repeat("\n", api.MaxText), 1, api.ErrSyntax)
	refusesVendor(t, lines("# a.b v1.0.0")+strings.Repeat("a", api.MaxText-13), 2, api.ErrLong)

	l, text = vendorOf(api.MaxText + 1)
	is(t, "its bytes", len(text), api.MaxText+1)
	refusesVendor(t, text, 0, api.ErrLong)
	formatsVendor(t, l, "", api.ErrLong)
	refusesVendor(t, strings.Repeat("\n", api.MaxText+1), 0, api.ErrLong)
	refusesVendor(t, strings.Repeat("a", 3*api.MaxText), 0, api.ErrLong)

	// As many modules as the text can have, and one more.
	fit := api.MaxText / len("# x.y/000000 v1.0.0\n")
	l, text = modulesOf(fit)
	parsesVendor(t, text, l)
	formatsVendor(t, l, text, api.OK)
	l, text = modulesOf(fit + 1)
	refusesVendor(t, text, 0, api.ErrLong)
	formatsVendor(t, l, "", api.ErrLong)

	// That the text is too long is the last that is looked at.
	formatsVendor(t, append(slices.Clone(l), l[0]), "", api.ErrTwice)
	formatsVendor(t, append(slices.Clone(l), vendored("a.b v1")), "", api.ErrVersion)
	formatsVendor(t, append(slices.Clone(l), vendored("a.b v1.0.0", "a.c")), "", api.ErrForm)
	big, _ := modulesOf(100000)
	formatsVendor(t, big, "", api.ErrLong)
	big, _ = vendorOf(30 * api.MaxText)
	formatsVendor(t, big, "", api.ErrLong)
}

func TestP5_4_Format(t *testing.T) {
	formatsVendor(t, nil, "", api.OK)
	formatsVendor(t, []sumfile.Vendored{}, "", api.OK)
	formatsVendor(t, []sumfile.Vendored{vendored("a.b v1.0.0")}, lines("# a.b v1.0.0"), api.OK)
	formatsVendor(t, []sumfile.Vendored{{Mod: module("a.b v1.0.0"), Packages: []string{}}}, lines("# a.b v1.0.0"), api.OK)
	formatsVendor(t, []sumfile.Vendored{vendored("a.b v1.0.0 explicit")}, lines("# a.b v1.0.0", "## explicit"), api.OK)
	formatsVendor(t, []sumfile.Vendored{
		vendored("x.y v1.0.0", "x.y/b", "x.y", "x.y/B", "x.y/a/b", "x.y/a+b"), vendored("a.b/c v1.10.0 explicit", "a.b/c/d"), vendored("a.b/c v1.9.0", "a.b/c/d"), vendored("a.b v1.0.0", "a.b/c/d"),
	}, lines("# a.b v1.0.0", "a.b/c/d", "# a.b/c v1.9.0", "a.b/c/d", "# a.b/c v1.10.0", "## explicit", "a.b/c/d", "# x.y v1.0.0", "x.y", "x.y/B", "x.y/a+b", "x.y/a/b", "x.y/b"), api.OK)
}

func TestP5_4_FormatOfWhatIsAtFault(t *testing.T) {
	good := vendored("x.y v1.0.0", "x.y", "x.y/z")
	for _, c := range []struct {
		v sumfile.Vendored
		e api.Errno
	}{
		{sumfile.Vendored{}, api.ErrPath}, {vendored("ab v1.0.0"), api.ErrPath}, {vendored(overPath + " v1.0.0"), api.ErrLong}, {vendored("a.b "), api.ErrVersion}, {vendored("a.b v1.0.0/go.mod"), api.ErrVersion}, {vendored("a.b v2.0.0"), api.ErrMajor}, {vendored("a.b/v1 v1.0.0"), api.ErrMajor},
		{vendored("x.y v1.0.0"), api.ErrTwice}, {vendored("x.y v1.0.0 explicit", "x.y/q"), api.ErrTwice},
		{vendored("a.b v1.0.0", ""), api.ErrPath}, {vendored("a.b v1.0.0", "a.b", "a.b/"), api.ErrPath}, {vendored("a.b v1.0.0", "#"), api.ErrPath}, {vendored("a.b v1.0.0", "a.b\n"), api.ErrPath}, {vendored("a.b v1.0.0", "# a.b v1.0.0"), api.ErrPath}, {vendored("a.b v1.0.0", filled("a.b/", api.MaxPath+1)), api.ErrLong},
		{vendored("a.b v1.0.0", "a.c"), api.ErrForm}, {vendored("a.b v1.0.0", "a.bc"), api.ErrForm}, {vendored("a.b v1.0.0", "a"), api.ErrForm}, {vendored("a.b v1.0.0", "a.b/c", "x.y"), api.ErrForm}, {vendored("a.b/v2 v2.0.0", "a.b"), api.ErrForm},
		{vendored("a.b v1.0.0", "a.b", "a.b"), api.ErrTwice}, {vendored("a.b v1.0.0", "a.b/c", "a.b", "a.b/d", "a.b/c"), api.ErrTwice},
		// Of several the first: the module ahead of its packages, package by package.
		{vendored("ab v1.0.0", "", "a"), api.ErrPath}, {vendored("x.y v1.0.0", ""), api.ErrTwice}, {vendored("x.y v1.0.0", "a"), api.ErrTwice}, {vendored("x.y v1", "a"), api.ErrVersion}, {vendored("a.b v1.0.0", "a.b", "a.b", "a.c", ""), api.ErrTwice}, {vendored("a.b v1.0.0", "a.c", "a.b", "a.b"), api.ErrForm}, {vendored("a.b v1.0.0", "a.c", ""), api.ErrForm}, {vendored("a.b v1.0.0", "a c", "a.c"), api.ErrPath}, {vendored("a.b v1.0.0", "a.c", "a.c"), api.ErrForm},
	} {
		formatsVendor(t, []sumfile.Vendored{good, c.v}, "", c.e)
		formatsVendor(t, []sumfile.Vendored{good, vendored("x.y v1.1.0", "x.y"), c.v, vendored("bad bad"), {}}, "", c.e)
		formatsVendor(t, []sumfile.Vendored{good, good, c.v}, "", api.ErrTwice)
		formatsVendor(t, []sumfile.Vendored{good, vendored("a.a v1.0.0", "a.b"), c.v}, "", api.ErrForm)
	}
}
