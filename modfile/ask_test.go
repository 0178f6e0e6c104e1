package modfile_test

import (
	"fmt"
	"testing"

	"mews/api"
	"mews/modfile"
)

func TestP4_5_Version(t *testing.T) {
	f := modfile.File{Module: "a.b", Require: each(need, "x.z v1.0.0", "x.y v1.2.0 indirect", "x.y v1.3.0", " v0.1.0", "x.w "),
		Exclude: each(module, "x.e v1.0.0"), Replace: each(swap, "x.r => x.s v1.0.0")}
	for path, want := range map[string]string{
		"x.z": "v1.0.0 true", "x.y": "v1.2.0 true", "": "v0.1.0 true", "x.w": " true",
		"x.": " false", "x.yy": " false", "X.y": " false", "a.b": " false", "x.e": " false", "x.r": " false", "x.s": " false",
	} {
		version, ok := modfile.Version(f, path)
		is(t, fmt.Sprintf("Version(%q)", path), fmt.Sprint(version, " ", ok), want)
	}
	version, ok := modfile.Version(modfile.File{}, "")
	is(t, "Version of nothing", fmt.Sprint(version, ok), "false")
}

func TestP4_5_Pruned(t *testing.T) {
	for version, want := range map[string]bool{
		"": false, "1.0": false, "1.1": false, "1.9": false, "1.16": false, "1.17": true, "1.18": true, "1.99": true, "1.100": true, "1.999": true,
		"1.1000": false, "1.017": false, "1.018": false, "1.": false, "1.x": false, "1.+17": false, "1.-17": false, "2.17": false, "2.0": false, "17": false, "1.17.0": false, "1.17 ": false, "v1.17": false, "1.20 // x": false,
	} {
		is(t, fmt.Sprintf("Pruned of %q", version), modfile.Pruned(modfile.File{Go: version}), want)
	}
}

func TestP4_5_Replaced(t *testing.T) {
	f := modfile.File{Replace: each(swap,
		"x.y => all.y v1.0.0", "x.y v1.2.0 => one.y v1.0.0", "x.y v1.2.0 => other.y v1.0.0", "x.y => rest.y v1.0.0",
		"x.z v1.0.0 => one.z v1.0.0", "all.y v1.0.0 => chain.y v1.0.0", " => none v1.0.0")}
	for given, want := range map[string]string{
		"x.y v1.2.0": "one.y v1.0.0", "x.y v1.2.1": "all.y v1.0.0", "x.y ": "all.y v1.0.0", "x.y wrong": "all.y v1.0.0",
		"x.z v1.0.0": "one.z v1.0.0", "x.z v1.0.1": "x.z v1.0.1", "x.z": "x.z", "x.zz v1.0.0": "x.zz v1.0.0", "one.y v1.0.0": "one.y v1.0.0",
		"all.y v1.0.0": "chain.y v1.0.0", " v9": "none v1.0.0", "": "none v1.0.0",
	} {
		is(t, fmt.Sprintf("Replaced(%q)", given), modfile.Replaced(f, module(given)), module(want))
	}
	is(t, "Replaced without any", modfile.Replaced(modfile.File{}, api.Mod{Path: "x.y", Version: "v1"}), api.Mod{Path: "x.y", Version: "v1"})
	// The one with the version is taken wherever it stands.
	turned := modfile.File{Replace: each(swap, "x.y v1.2.0 => one.y v1.0.0", "x.y => all.y v1.0.0")}
	is(t, "Replaced, turned round", modfile.Replaced(turned, module("x.y v1.2.0")), module("one.y v1.0.0"))
	is(t, "Replaced, turned round", modfile.Replaced(turned, module("x.y v1.3.0")), module("all.y v1.0.0"))
}
