package mod_test

import (
	"fmt"
	"strings"
	"testing"

	"mews/api"
	"mews/mod"
)

func TestExamplesOfPaths(t *testing.T) {
	for p, want := range map[string]api.Errno{
		"a.b/c": api.OK, "ab/c": api.ErrPath, "a.b/C": api.OK, "A.b/c": api.ErrPath, "a.b//c": api.ErrPath,
		"a.b/.c": api.ErrPath, "a.b/v2": api.OK, "a.b/v1": api.ErrMajor, "a.b": api.OK,
	} {
		is(t, p, mod.CheckPath(p), want)
	}
	is(t, "with a major", splitMajor("a.b/c/v2"), front{"a.b/c", 2})
	is(t, "without one", splitMajor("a.b/c"), front{"a.b/c", 0})
	is(t, "Matches", mod.Matches("v2.0.0", "a.b/c/v2"), true)
	is(t, "Matches without a major", mod.Matches("v2.0.0", "a.b/c"), false)
}

func TestP3_4_CheckPath(t *testing.T) {
	for want, paths := range map[api.Errno][]string{
		api.OK: {
			"a.b", "a.b.c", "1.2", "a-.b-", "a.-b", "a..b", "a.b/c", "a.b/C", "a.b/-c", "a.b/_", "a.b/~", "a.b/-", "a.b/0", "a.b/c.d", "a.b/c..d",
			"a.b/c/d/e/f", "a.b/c.d/v2", "a.b/v2", "a.b/v10", "a.b/v999999999", "a.b/v", "a.b/V1", "a.b/vv1", "a.b/v1a", "a.b/v1.1", "a.b/v-1", "a.b/v2/c",
			"a.b/v1/c", "a.b/v01/c", "a.b/v1/v2", "v1.2", "v.1", "a.v1", "a.b/xv1", "a.b/1",
			filled("a.b/", "c", 100), filled("a.", "b", 100), filled("a.b/v2/", "c", 100), filled("a.b/", "c", 97) + "/v2",
		},
		api.ErrPath: {
			"", "/", "//", ".", "..", "a", "ab", "ab/c", "ab/c.d", "v2", "v1", "a/v1", "/a.b", "a.b/", "/a.b/c", "a.b/c/", "a.b//c", "a.b/c//",
			".a.b", "a.b.", "a.b./c", ".b/c", "a.b/.c", "a.b/c.", "a.b/.", "a.b/..", "a.b/c/../d", "a.b/c./d", "a.b/.v1",
			"A.b", "a.B", "a.b.C/d", "a_.b", "a.b_/c", "a~.b", "a.~b/c", "-a.b", "-.b/c", "-a.b/v1",
			"a.b/c+", "a+.b", "a.b/c d", "a.b/c\\d", "a.b/c:d", "a.b/c@v1", "a.b/c!", "a.b/\x00", "a.b/c\n", " a.b", "a.b/\xff", "a.b/é", "é.b", "a.b/c?",
			"ab/v1", "A.b/v1", "a.b//v1", "a.b/v1/", "a.b/+/v1", filled("", "c", 100), filled("a.b", "/", 100),
		},
		api.ErrMajor: {
			"a.b/v0", "a.b/v1", "a.b/v00", "a.b/v01", "a.b/v02", "a.b/v002", "a.b/v010", "a.b/c/v1", "a.b/v2/v1", "a.b/v1000000000", "a.b/v1234567890",
			"a.b/v0000000002", "a.b/v18446744073709551618", filled("a.b/v", "2", 100), filled("a.b/v", "0", 100),
		},
		api.ErrLong: {
			filled("a.b/", "c", 101), filled("a.b/v", "0", 101), filled("", "/", 101), filled("", "é", 52), filled("A", "a", 1<<20), filled("a.b/", "c", 98) + "/v1",
		},
	} {
		for _, p := range paths {
			is(t, fmt.Sprintf("CheckPath(%.110q)", p), mod.CheckPath(p), want)
		}
	}
	is(t, "MaxPath", api.MaxPath, 100)
}

func TestP3_5_CheckImport(t *testing.T) {
	for want, paths := range map[api.Errno][]string{
		api.OK: {
			"fmt", "a", "A", "a/b", "a.b/c", "a.b/C+", "+", "a+b/c++", "-a", "_", "~", "-", "0", "a..b", "v1", "a.b/v1", "a.b/v0", "a.b/v01", "a/v1000000000",
			"A.b/C_~-", "a_.b/c", filled("", "c", 100), filled("a/", "+", 100),
		},
		api.ErrPath: {
			"", "/", "//", "/b", "b/", "a//b", ".", "..", "./a", "../a", "a/..", "a/.b", "a./b", "a/b.", ".a", "a.", "a/./b", "+./b",
			"a b", "a\\b", "a:b", "a!b", "a@b", "a\x00b", "a\n", "\xff", "é", "a/é", "a\"b", "a*b", filled("a", "/", 100),
		},
		api.ErrLong: {filled("", "c", 101), filled("", "/", 101), filled(".", "c", 101), filled("", " ", 1<<20)},
	} {
		for _, p := range paths {
			is(t, fmt.Sprintf("CheckImport(%.110q)", p), mod.CheckImport(p), want)
		}
	}
}

func TestP3_4_P3_5_EveryByteOfAnElement(t *testing.T) {
	const lower, upper, digits = "abcdefghijklmnopqrstuvwxyz", "ABCDEFGHIJKLMNOPQRSTUVWXYZ", "0123456789"
	okIf := func(may, one string) api.Errno {
		if strings.Contains(may, one) {
			return api.OK
		}
		return api.ErrPath
	}
	for c := range 256 {
		one := string([]byte{byte(c)})
		what := fmt.Sprintf(" with %q", one)
		any := lower + upper + digits + "-_~"
		is(t, "an element of a path"+what, mod.CheckPath("a.b/c"+one+"d"), okIf(any+"./", one))
		is(t, "an element's beginning in a path"+what, mod.CheckPath("a.b/"+one+"d"), okIf(any, one))
		is(t, "a first element"+what, mod.CheckPath("a.b"+one+"d/c"), okIf(lower+digits+"-./", one))
		is(t, "a first element's beginning"+what, mod.CheckPath(one+"d.b/c"), okIf(lower+digits, one))
		is(t, "a first element's end"+what, mod.CheckPath("a.b"+one+"/c"), okIf(lower+digits+"-", one))
		is(t, "an element of an import"+what, mod.CheckImport("a/c"+one+"d"), okIf(any+"+./", one))
		is(t, "an element's beginning in an import"+what, mod.CheckImport(one+"d/c"), okIf(any+"+", one))
		is(t, "an element's end in an import"+what, mod.CheckImport("a/d"+one), okIf(any+"+", one))
		is(t, "an element of an import alone"+what, mod.CheckImport(one), okIf(any+"+", one))
	}
}

func TestP3_6_SplitMajor(t *testing.T) {
	for p, want := range map[string]front{
		"a.b/c/v2":                     {"a.b/c", 2},
		"a.b/v2":                       {"a.b", 2},
		"a/v10":                        {"a", 10},
		"a.b/v999999999":               {"a.b", 999999999},
		"a.b/v2/v3":                    {"a.b/v2", 3},
		"a.b/v1/v3":                    {"a.b/v1", 3},
		"/v2":                          {"", 2},
		"a//v2":                        {"a/", 2},
		filled("a/", "b", 200) + "/v2": {filled("a/", "b", 200), 2},
	} {
		is(t, fmt.Sprintf("SplitMajor(%q)", p), splitMajor(p), want)
	}
	for _, p := range []string{
		"", "/", "v2", "a.b", "a.b/c", "a.b/v0", "a.b/v1", "a.b/v00", "a.b/v02", "a.b/v010", "a.b/v1000000000", "a.b/v0000000002", "a.b/v18446744073709551618",
		"a.b/v", "a.b/V2", "a.b/2", "a.b/vv2", "a.b/v2a", "a.b/v2.0", "a.b/v-2", "a.b/v+2", "a.b/v 2", "a.b/v2 ", "a.b/v2/", "a.b/v2/c", "a.b.v2", "a.b/xv2",
		"a.b\\v2", "a.b/v\u0662", "a.b/v2\n", "a.b/v1_0",
	} {
		is(t, fmt.Sprintf("SplitMajor(%q)", p), splitMajor(p), front{p, 0})
	}
}

func TestP3_6_Matches(t *testing.T) {
	for _, c := range []struct {
		version, path string
		want          bool
	}{
		{"v0.0.0", "a.b/c", true}, {"v0.1.0", "a.b", true}, {"v1.9.0", "a.b/c", true}, {"v1.0.0-a", "a.b/c", true}, {"v0.0.0-" + end, "a.b/c", true},
		{"v2.0.0", "a.b/c", false}, {"v2.0.0-a", "a.b/c", false}, {"v10.0.0", "a.b/c", false}, {"v999999999.0.0", "a.b/c", false},
		{"v2.0.0", "a.b/v2", true}, {"v2.0.0-a", "a.b/v2", true}, {"v2.3.4", "a.b/c/v2", true}, {"v999999999.0.0", "a.b/v999999999", true},
		{"v0.2.0", "a.b/v2", false}, {"v1.0.0", "a.b/v2", false}, {"v3.0.0", "a.b/v2", false}, {"v20.0.0", "a.b/v2", false}, {"v2.0.0", "a.b/v20", false},
		{"v1.0.0", "a.b/v1", true}, {"v0.0.0", "a.b/v0", true}, {"v2.0.0", "a.b/v02", false}, {"v1.0.0", "a.b/v02", true}, {"v2.0.0", "v2", false},
		{"v2.0.0", "a.b/v2/c", false}, {"v1.0.0", "a.b/v2/c", true}, {"v1.0.0", "", true},
		{"", "a.b", false}, {"x", "a.b", false}, {"v1", "a.b", false}, {"v2", "a.b/v2", false}, {"v1.0.0+x", "a.b", false}, {"v1.00.0", "a.b", false},
	} {
		is(t, fmt.Sprintf("Matches(%q, %q)", c.version, c.path), mod.Matches(c.version, c.path), c.want)
	}
}

func TestP3_6_Check(t *testing.T) {
	for _, c := range []struct {
		path, version string
		want          api.Errno
	}{
		{"a.b", "v1.0.0", api.OK},
		{"a.b", "v0.0.0-0", api.OK},
		{"a.b/v2", "v2.0.0", api.OK},
		{filled("a.b/", "c", 100), "v1.0.0", api.OK},
		{filled("a.b/", "c", 101), "v1.0.0", api.ErrLong},
		{filled("a.b/", "c", 101), "x", api.ErrLong},
		{"ab", "v1.0.0", api.ErrPath},
		{"ab", "x", api.ErrPath},
		{"ab", "v2.0.0", api.ErrPath},
		{"", "", api.ErrPath},
		{"a.b/v1", "v1.0.0", api.ErrMajor},
		{"a.b/v1", "x", api.ErrMajor},
		{"a.b", "", api.ErrVersion},
		{"a.b", "x", api.ErrVersion},
		{"a.b", "v1.0", api.ErrVersion},
		{"a.b/v2", "v1", api.ErrVersion},
		{"a.b", filled("v2.0.0-", "a", 61), api.ErrVersion},
		{"a.b", filled("v2.0.0-", "a", 60), api.ErrMajor},
		{"a.b", "v2.0.0", api.ErrMajor},
		{"a.b/v2", "v1.0.0", api.ErrMajor},
		{"a.b/v2", "v3.0.0", api.ErrMajor},
	} {
		is(t, fmt.Sprintf("Check(%q, %q)", c.path, c.version), mod.Check(api.Mod{Path: c.path, Version: c.version}), c.want)
	}
}
