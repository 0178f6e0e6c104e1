package modfile_test

import (
	"fmt"
	"strings"
	"testing"

	"mews/api"
	"mews/modfile"
)

const (
	longPath    = "x.y/" + "aaaaaaaaaaaaaaaaaaaaaaaaaaaaaaaaaaaaaaaaaaaaaaaaaaaaaaaaaaaaaaaaaaaaaaaaaaaaaaaaaaaaaaaaaaaaaaaaaaaa"
	longVersion = "v1.0.0-" + "aaaaaaaaaaaaaaaaaaaaaaaaaaaaaaaaaaaaaaaaaaaaaaaaaaaaa"
)

func checks(t *testing.T, f modfile.File, want api.Errno) {
	t.Helper()
	is(t, fmt.Sprintf("Check(%.300s)", fmt.Sprintf("%+v", f)), modfile.Check(f), want)
}

func TestP4_1_CheckOfModule(t *testing.T) {
	for path, want := range map[string]api.Errno{
		"a.b": api.OK, "a.b/c/v2": api.OK, longPath[:100]: api.OK,
		"": api.ErrPath, "ab": api.ErrPath, "a.b/": api.ErrPath, "a.b c": api.ErrPath, "a.b\n": api.ErrPath,
		longPath[:101]: api.ErrLong, "a.b/v1": api.ErrMajor,
	} {
		checks(t, modfile.File{Module: path}, want)
	}
}

func TestP4_1_CheckOfGo(t *testing.T) {
	for version, want := range map[string]api.Errno{
		"": api.OK, "1.0": api.OK, "1.1": api.OK, "1.9": api.OK, "1.10": api.OK, "1.17": api.OK, "1.99": api.OK, "1.100": api.OK, "1.999": api.OK,
		"1.1000": api.ErrSyntax, "1.00": api.ErrSyntax, "1.01": api.ErrSyntax, "1.017": api.ErrSyntax, "1.": api.ErrSyntax, "1": api.ErrSyntax, "1.-1": api.ErrSyntax, "1.-0": api.ErrSyntax, "1.+1": api.ErrSyntax,
		"1.1_0": api.ErrSyntax, "1.0x1": api.ErrSyntax, "2.1": api.ErrSyntax, "0.1": api.ErrSyntax, "01.1": api.ErrSyntax, "1.1.1": api.ErrSyntax, "17": api.ErrSyntax, "1.17 ": api.ErrSyntax, " 1.17": api.ErrSyntax,
		"1.a": api.ErrSyntax, "1.18446744073709551617": api.ErrSyntax, "1.4294967297": api.ErrSyntax, "v1.17": api.ErrSyntax, "1.17\n": api.ErrSyntax, "1,1": api.ErrSyntax, "11": api.ErrSyntax,
	} {
		checks(t, modfile.File{Module: "a.b", Go: version}, want)
	}
}

func TestP4_1_CheckOfRequire(t *testing.T) {
	for list, want := range map[string]api.Errno{
		"": api.OK, "x.y v1.0.0": api.OK, "x.y v1.0.0 indirect": api.OK, "x.y v1.0.0|x.z v1.0.0": api.OK, "x.z v1.0.0|x.y v1.0.0": api.OK, "x.y v1.0.0|x.y/v2 v2.0.0": api.OK, "a.b/c v1.0.0": api.OK, "a.b/v2 v2.0.0": api.OK,
		"xy v1.0.0": api.ErrPath, " ": api.ErrPath, longPath[:101] + " v1.0.0": api.ErrLong, "x.y ": api.ErrVersion, "x.y v1.0": api.ErrVersion, "x.y " + longVersion + "aa": api.ErrVersion, "x.y v2.0.0": api.ErrMajor, "x.y/v2 v1.0.0": api.ErrMajor,
		"x.y v1.0.0|x.y v1.0.0": api.ErrTwice, "x.y v1.0.0|x.y v1.1.0": api.ErrTwice, "x.y v1.0.0|x.y v1.0.0 indirect": api.ErrTwice, "x.y v1.0.0|x.z v1.0.0|x.y v1.0.0": api.ErrTwice,
		"a.b v1.0.0": api.ErrTwice, "a.b v1.0.0 indirect": api.ErrTwice, "x.y v1.0.0|a.b v1.0.0": api.ErrTwice,
		// The first that is at fault, and of it the first fault.
		"a.b v2.0.0": api.ErrMajor, "a.b v1.0.0|xy v1.0.0": api.ErrTwice, "xy v1.0.0|a.b v1.0.0": api.ErrPath,
		"x.y v1.0.0|x.y v1": api.ErrVersion, "x.y v1.0.0|x.y v1.0.0|xy v1.0.0": api.ErrTwice, "x.y v1|xy v1.0.0": api.ErrVersion,
	} {
		checks(t, modfile.File{Module: "a.b", Require: listOf(need, list)}, want)
	}
}

func TestP4_1_CheckOfExclude(t *testing.T) {
	for list, want := range map[string]api.Errno{
		"": api.OK, "x.y v1.0.0": api.OK, "x.y v1.0.0|x.y v1.0.1": api.OK, "x.y v1.0.1|x.y v1.0.0": api.OK, "x.y v1.0.0|x.z v1.0.0": api.OK, "a.b v1.0.0": api.OK,
		"xy v1.0.0": api.ErrPath, longPath[:101] + " v1.0.0": api.ErrLong, "x.y ": api.ErrVersion, "x.y v1": api.ErrVersion, "x.y v2.0.0": api.ErrMajor,
		"x.y v1.0.0|x.y v1.0.0": api.ErrTwice, "x.y v1.0.0|x.z v1.0.0|x.y v1.0.0": api.ErrTwice,
		"x.y v1.0.0|x.y v1.0.0|xy v1.0.0": api.ErrTwice, "x.y v1|xy v1.0.0": api.ErrVersion, "xy v1.0.0|x.y v1": api.ErrPath, "x.y v1|x.y v1": api.ErrVersion,
	} {
		checks(t, modfile.File{Module: "a.b", Exclude: listOf(module, list)}, want)
	}
}

func TestP4_1_CheckOfReplace(t *testing.T) {
	for list, want := range map[string]api.Errno{
		"": api.OK, "x.y => x.z v1.0.0": api.OK, "x.y v1.0.0 => x.z v1.0.0": api.OK, "x.y => x.y v1.0.0": api.OK, "x.y/v2 => x.z v1.0.0": api.OK, "x.y/v2 v2.0.0 => x.z/v3 v3.0.0": api.OK, "a.b => x.z v1.0.0": api.OK, "x.y => a.b v1.0.0": api.OK,
		"x.y => x.z v1.0.0|x.y v1.0.0 => x.z v1.0.0": api.OK, "x.y v1.0.1 => x.z v1.0.0|x.y v1.0.0 => x.z v1.0.0|x.y => x.z v1.0.0": api.OK,
		"xy => x.z v1.0.0": api.ErrPath, " => x.z v1.0.0": api.ErrPath, longPath[:101] + " => x.z v1.0.0": api.ErrLong, "x.y/v1 => x.z v1.0.0": api.ErrMajor,
		"x.y v1 => x.z v1.0.0": api.ErrVersion, "x.y v2.0.0 => x.z v1.0.0": api.ErrMajor, "xy v1.0.0 => x.z v1.0.0": api.ErrPath,
		"x.y => xz v1.0.0": api.ErrPath, "x.y => x.z ": api.ErrVersion, "x.y => x.z v1": api.ErrVersion, "x.y => x.z v2.0.0": api.ErrMajor, "x.y => ": api.ErrPath, "x.y => " + longPath[:101] + " v1.0.0": api.ErrLong,
		"x.y => x.z v1.0.0|x.y => x.z v1.0.0": api.ErrTwice, "x.y => x.z v1.0.0|x.y => x.w v1.1.0": api.ErrTwice, "x.y v1.0.0 => x.z v1.0.0|x.w => x.z v1.0.0|x.y v1.0.0 => x.w v1.0.0": api.ErrTwice,
		// Old's path, Old, New, twice; the first that is at fault.
		"xy v1 => x.z v2.0.0": api.ErrPath, "x.y v1 => xz v1.0.0": api.ErrVersion, "x.y v2.0.0 => x.z v1": api.ErrMajor, "x.y/v1 => xz v1": api.ErrMajor,
		"x.y => x.z v1.0.0|x.y => x.z v1": api.ErrVersion, "x.y => x.z v1.0.0|x.y => x.z v1.0.0|xy => x.z v1.0.0": api.ErrTwice, "x.y => x.z v1|xy => x.z v1.0.0": api.ErrVersion,
	} {
		checks(t, modfile.File{Module: "a.b", Replace: listOf(swap, list)}, want)
	}
}

func TestP4_1_CheckOfRetract(t *testing.T) {
	for list, want := range map[string]api.Errno{
		"": api.OK, "v1.0.0 v1.0.0": api.OK, "v1.0.0 v1.0.1": api.OK, "v1.9.0 v1.10.0": api.OK, "v1.0.0-a v1.0.0": api.OK, "v1.0.0 v9.0.0": api.OK, "v9.0.0 v9.0.0": api.OK,
		"v1.0.0 v1.0.0|v1.0.0 v1.1.0": api.OK, "v1.0.0 v1.1.0|v1.0.1 v1.1.0": api.OK, "v1.0.0 v1.5.0|v1.1.0 v1.2.0": api.OK,
		" ": api.ErrVersion, "v1.0.0 ": api.ErrVersion, " v1.0.0": api.ErrVersion, "v1 v1.0.0": api.ErrVersion, "v1.0.0 v1": api.ErrVersion, "v1.0.0 x": api.ErrVersion, longVersion + "aa " + longVersion + "aa": api.ErrVersion,
		"v1.0.1 v1.0.0": api.ErrRange, "v1.10.0 v1.9.0": api.ErrRange, "v1.0.0 v1.0.0-a": api.ErrRange,
		"v1.0.0 v1.0.0|v1.0.0 v1.0.0": api.ErrTwice, "v1.0.0 v1.1.0|v1.0.0 v1.0.0|v1.0.0 v1.1.0": api.ErrTwice,
		// A version ahead of the range, twice behind both; the first that is at fault.
		"v1.0.0 a": api.ErrVersion, "z a": api.ErrVersion, "v1.1.0 v1.0.0|v1 v1": api.ErrRange, "v1 v1|v1.1.0 v1.0.0": api.ErrVersion, "v1.0.0 v1.0.0|v1.0.0 v1.0.0|x x": api.ErrTwice,
	} {
		checks(t, modfile.File{Module: "a.b", Retract: listOf(span, list)}, want)
	}
}

// listOf is a list whose elements have `|` between.
func listOf[T any](read func(string) T, list string) []T {
	if list == "" {
		return nil
	}
	return each(read, strings.Split(list, "|")...)
}

func TestP4_1_CheckOfMany(t *testing.T) {
	checks(t, full(api.MaxMods), api.OK)
	for name, f := range oneTooMany(full(0)) {
		is(t, "Check of one too many: "+name, modfile.Check(f), api.ErrMany)
	}
	// Ahead of whatever is at fault in a list, and behind module and go.
	for name, f := range oneTooMany(modfile.File{Module: "a.b", Require: each(need, "xy v1"), Retract: each(span, "x y")}) {
		is(t, "Check of one too many among faults: "+name, modfile.Check(f), api.ErrMany)
		f.Go = "1.01"
		is(t, "Check of one too many with a wrong go: "+name, modfile.Check(f), api.ErrSyntax)
		f.Module = "a.b/v1"
		is(t, "Check of one too many with a wrong module: "+name, modfile.Check(f), api.ErrMajor)
	}
}

// oneTooMany is the manifest with each of its lists made too long in turn.
func oneTooMany(f modfile.File) map[string]modfile.File {
	long := full(api.MaxMods + 1)
	require, exclude, replace, retract := f, f, f, f
	require.Require = long.Require
	exclude.Exclude = long.Exclude
	replace.Replace = long.Replace
	retract.Retract = long.Retract
	return map[string]modfile.File{"require": require, "exclude": exclude, "replace": replace, "retract": retract}
}

func TestP4_1_CheckGoesInOrder(t *testing.T) {
	f := modfile.File{
		Module: "ab", Go: "2.0",
		Require: each(need, "x.y v1"),
		Exclude: each(module, "x.y v2.0.0"),
		Replace: each(swap, "x.y => "+longPath[:101]+" v1.0.0"),
		Retract: each(span, "v1.1.0 v1.0.0"),
	}
	checks(t, f, api.ErrPath)
	f.Module = "a.b"
	checks(t, f, api.ErrSyntax)
	f.Go = "1.0"
	checks(t, f, api.ErrVersion)
	f.Require = nil
	checks(t, f, api.ErrMajor)
	f.Exclude = nil
	checks(t, f, api.ErrLong)
	f.Replace = nil
	checks(t, f, api.ErrRange)
	f.Retract = nil
	checks(t, f, api.OK)
}
