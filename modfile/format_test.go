package modfile_test

import (
	"fmt"
	"math/rand"
	"slices"
	"strings"
	"testing"

	"mews/api"
	"mews/modfile"
)

// rising is a manifest whose lists are in order, without two that are the same.
func rising() modfile.File {
	return modfile.File{
		Module: "m.m", Go: "1.5",
		Require: each(need, " v9.0.0", "A.b v1.0.0", "a.B v1.0.0", "a.b v1.9.0", "a.b-c v0.0.0", "a.b.c v0.0.0", "a.b/c v0.0.0", "a.b/v10 v10.0.0", "a.b/v9 v9.0.0", "a.bc v0.0.0 indirect", "b v1.0.0", "\xff v0.0.0"),
		Exclude: each(module, "a.b ", "a.b x", "a.b v1.0.0-a", "a.b v1.0.0", "a.b v1.9.0", "a.b v1.10.0", "a.b/c v0.0.0", "a.b/v10 v1.0.0", "a.b/v9 v1.0.0", "b v0.0.0"),
		Replace: each(swap, "a.b => z v9.0.0", "a.b x => y v8.0.0", "a.b v1.0.0-a => x v7.0.0", "a.b v1.0.0 => w v6.0.0", "a.b v1.9.0 => v v5.0.0", "a.b v1.10.0 => u v4.0.0", "a.b/c => t v3.0.0", "b => s v2.0.0", "b v0.0.0 => r v1.0.0"),
		Retract: each(span, " v9.0.0", "x ", "x x", "x v1.0.0", "v1.0.0-a v1.9.0", "v1.0.0 v0.1.0", "v1.0.0 v1.0.0", "v1.0.0 v1.9.0", "v1.0.0 v1.10.0", "v1.9.0 v1.9.0", "v1.10.0 v1.10.0"),
	}
}

// mixed is the manifest with its lists in another order.
func mixed(chance *rand.Rand, f modfile.File) modfile.File {
	f.Require = shuffled(chance, f.Require)
	f.Exclude = shuffled(chance, f.Exclude)
	f.Replace = shuffled(chance, f.Replace)
	f.Retract = shuffled(chance, f.Retract)
	return f
}

func shuffled[T any](chance *rand.Rand, list []T) []T {
	other := slices.Clone(list)
	chance.Shuffle(len(other), func(i, k int) { other[i], other[k] = other[k], other[i] })
	return other
}

func TestP4_3_CanonRises(t *testing.T) {
	chance := rand.New(rand.NewSource(43))
	isFile(t, "Canon of nothing", modfile.Canon(modfile.File{}), modfile.File{})
	isFile(t, "Canon of what is in order", modfile.Canon(rising()), rising())
	for range 50 {
		isFile(t, "Canon", modfile.Canon(mixed(chance, rising())), rising())
	}
}

func TestP4_3_CanonLeavesTheSameAsTheyCame(t *testing.T) {
	f := modfile.Canon(modfile.File{Module: "wrong", Go: "wrong",
		Require: each(need, "x.z v1.0.0", "x.y v1.2.0", "x.y v1.0.0 indirect", "x.a v1.0.0", "x.y v1.1.0", "x.z v0.1.0", "x.y v1.2.0"),
		Exclude: each(module, "x.y v1.0.0", "x.a v1.0.0", "x.y v1.0.0"),
		Replace: each(swap, "x.z => b v1.0.0", "x.y v1.0.0 => d v1.0.0", "x.y => c v1.0.0", "x.y v1.0.0 => a v1.0.0", "x.y => b v1.0.0", "x.y => d v1.0.0", "x.z => a v1.0.0"),
		Retract: each(span, "v1.0.0 v1.1.0", "v1.0.0 v1.0.0", "v1.0.0 v1.1.0"),
	})
	isFile(t, "Canon", f, modfile.File{Module: "wrong", Go: "wrong",
		Require: each(need, "x.a v1.0.0", "x.y v1.2.0", "x.y v1.0.0 indirect", "x.y v1.1.0", "x.y v1.2.0", "x.z v1.0.0", "x.z v0.1.0"),
		Exclude: each(module, "x.a v1.0.0", "x.y v1.0.0", "x.y v1.0.0"),
		Replace: each(swap, "x.y => c v1.0.0", "x.y => b v1.0.0", "x.y => d v1.0.0", "x.y v1.0.0 => d v1.0.0", "x.y v1.0.0 => a v1.0.0", "x.z => b v1.0.0", "x.z => a v1.0.0"),
		Retract: each(span, "v1.0.0 v1.0.0", "v1.0.0 v1.1.0", "v1.0.0 v1.1.0"),
	})
	// So many that a sort which is not steady would mix them.
	var many modfile.File
	for i := range 300 {
		many.Require = append(many.Require, modfile.Require{Path: fmt.Sprint("x.", i%3), Version: fmt.Sprint(i)})
		many.Replace = append(many.Replace, modfile.Replace{Old: api.Mod{Path: fmt.Sprint("x.", i%3)}, New: api.Mod{Version: fmt.Sprint(i)}})
	}
	sorted := modfile.Canon(many)
	for i := range 300 {
		want := fmt.Sprint(i%100*3 + i/100)
		is(t, "the version of a require", sorted.Require[i].Version, want)
		is(t, "the version of a replace", sorted.Replace[i].New.Version, want)
	}
}

func formats(t *testing.T, f modfile.File, want string, wantE api.Errno) {
	t.Helper()
	text, e := modfile.Format(f)
	is(t, "Format's error", e, wantE)
	is(t, "Format", text, want)
}

func TestP4_3_FormatOfEachPart(t *testing.T) {
	formats(t, modfile.File{Module: "a.b"}, "module a.b\n", api.OK)
	formats(t, modfile.File{Module: "a.b", Go: "1.0"}, "module a.b\n\ngo 1.0\n", api.OK)
	formats(t, modfile.File{Module: "a.b", Require: each(need, "x.y v1.0.0")}, "module a.b\n\nrequire (\n\tx.y v1.0.0\n)\n", api.OK)
	formats(t, modfile.File{Module: "a.b", Require: each(need, "x.y v1.0.0 indirect", "x.x v1.0.0")}, "module a.b\n\nrequire (\n\tx.x v1.0.0\n\tx.y v1.0.0 // indirect\n)\n", api.OK)
	formats(t, modfile.File{Module: "a.b", Exclude: each(module, "x.y v1.10.0", "x.y v1.9.0")}, "module a.b\n\nexclude (\n\tx.y v1.9.0\n\tx.y v1.10.0\n)\n", api.OK)
	formats(t, modfile.File{Module: "a.b", Replace: each(swap, "x.y v1.0.0 => x.z v1.0.0", "x.y => x.w/v2 v2.0.0")}, "module a.b\n\nreplace (\n\tx.y => x.w/v2 v2.0.0\n\tx.y v1.0.0 => x.z v1.0.0\n)\n", api.OK)
	formats(t, modfile.File{Module: "a.b", Retract: each(span, "v1.0.0 v1.1.0", "v1.0.0 v1.0.0")}, "module a.b\n\nretract (\n\tv1.0.0\n\t[v1.0.0, v1.1.0]\n)\n", api.OK)
	formats(t, modfile.File{Module: "a.b", Go: "1.20",
		Require: each(need, "x.y v1.0.0"), Exclude: each(module, "x.y v1.1.0"), Replace: each(swap, "x.y => x.z v1.0.0"), Retract: each(span, "v1.0.0 v1.0.0")},
		"module a.b\n\ngo 1.20\n\nrequire (\n\tx.y v1.0.0\n)\n\nexclude (\n\tx.y v1.1.0\n)\n\nreplace (\n\tx.y => x.z v1.0.0\n)\n\nretract (\n\tv1.0.0\n)\n", api.OK)
}

func TestP4_3_FormatAnswersChecksError(t *testing.T) {
	for want, f := range map[api.Errno]modfile.File{
		api.ErrPath:    {Module: "ab", Go: "2"},
		api.ErrSyntax:  {Module: "a.b", Go: "2", Require: each(need, "xy v1.0.0")},
		api.ErrMany:    {Module: "a.b", Exclude: full(api.MaxMods + 1).Exclude},
		api.ErrTwice:   {Module: "a.b", Require: each(need, "a.b v1.0.0")},
		api.ErrVersion: {Module: "a.b", Exclude: each(module, "x.y v1")},
		api.ErrMajor:   {Module: "a.b", Replace: each(swap, "x.y v2.0.0 => x.z v1.0.0")},
		api.ErrRange:   {Module: "a.b", Retract: each(span, "v1.1.0 v1.0.0")},
	} {
		formats(t, f, "", want)
	}
	// Check takes the lists as they came.
	formats(t, modfile.File{Module: "a.b", Require: each(need, "z.y v1", "a.b v1.0.0")}, "", api.ErrVersion)
	formats(t, modfile.File{Module: "a.b", Require: each(need, "z.y v1.0.0", "z.y v1.0.0", "xy v1.0.0")}, "", api.ErrTwice)
}

func TestP4_3_FormatOfLongTexts(t *testing.T) {
	f := modfile.File{Module: "a.b"}
	path := func(i, length int) string {
		head := fmt.Sprint("x.y/", i, "/")
		return head + strings.Repeat("z", length-len(head))
	}
	for i := range api.MaxMods {
		f.Replace = append(f.Replace, modfile.Replace{Old: api.Mod{Path: path(i, 90), Version: longVersion}, New: api.Mod{Path: path(i, 90), Version: longVersion}})
	}
	for i := range 20 {
		f.Exclude = append(f.Exclude, api.Mod{Path: path(i, 90), Version: longVersion})
	}
	text, e := modfile.Format(f)
	is(t, "the error of a text that may be", e, api.OK)
	if len(text) > api.MaxText {
		t.Fatalf("%d bytes", len(text))
	}
	// Each path may grow by ten bytes, until the text has just MaxText bytes.
	more := api.MaxText - len(text)
	for i := 0; more > 0; i++ {
		grown := min(more, 10)
		f.Replace[i].Old.Path = path(i, 90+grown)
		more -= grown
	}
	text, e = modfile.Format(f)
	is(t, "the error of MaxText bytes", e, api.OK)
	is(t, "their number", len(text), api.MaxText)
	parses(t, text, modfile.Canon(f))
	f.Module = "a.bc"
	is(t, "Check of one byte more", modfile.Check(f), api.OK)
	formats(t, f, "", api.ErrLong)
}
