package modfile_test

import (
	"fmt"
	"testing"

	"mews/api"
	"mews/modfile"
)

// strange is a manifest that Check doesn't take: nothing of it is right, and
// much is there twice.
func strange() modfile.File {
	return modfile.File{
		Module: "wrong", Go: "2",
		Require: each(need, "x.z v1.0.0", "x.y v1.0.0", "x.y v0.1.0 indirect", "bad v1", "x.y v1.0.0"),
		Exclude: each(module, "x.z v1.0.0", "x.y v1.0.0", "bad v1", "x.y v1.0.0", "x.y v0.1.0"),
		Replace: each(swap, "x.z => a v1", "x.y => b v1", "x.y v1.0.0 => c v1", "x.y => d v1", "bad x => e v1", "x.y v1.0.0 => f v1"),
		Retract: each(span, "v1.1.0 v1.0.0", "v1.0.0 v1.1.0", "bad x", "v1.0.0 v1.1.0", "v1.0.0 v1.0.0"),
	}
}

// adds fails the test unless an Add answers want, in order.
func adds(t *testing.T, what string, got modfile.File, e api.Errno, want modfile.File) {
	t.Helper()
	is(t, what+": the error", e, api.OK)
	isFile(t, what, got, modfile.Canon(want))
}

// drops fails the test unless a Drop answers want, in order, and whether it was there.
func drops(t *testing.T, what string, got modfile.File, was bool, want modfile.File, wantWas bool) {
	t.Helper()
	is(t, what+": whether it was there", was, wantWas)
	isFile(t, what, got, modfile.Canon(want))
}

// addsNot fails the test unless an Add answers the error and nothing beside.
func addsNot(t *testing.T, what string, got modfile.File, e, want api.Errno) {
	t.Helper()
	is(t, what+": the error", e, want)
	isFile(t, what, got, modfile.File{})
}

func TestP4_4_AddRequire(t *testing.T) {
	f, e := modfile.AddRequire(example(), need("m.n v1.0.0"))
	want := example()
	want.Require = each(need, "a.b/d v0.1.0", "m.n v1.0.0", "x.y/z v1.2.0 indirect")
	adds(t, "a new one", f, e, want)
	f, e = modfile.AddRequire(example(), need("x.y/z v1.1.0"))
	want.Require = each(need, "a.b/d v0.1.0", "x.y/z v1.1.0")
	adds(t, "one in the place of another", f, e, want)
	f, e = modfile.AddRequire(modfile.File{}, need("x.y v1.0.0 indirect"))
	adds(t, "the first one", f, e, modfile.File{Require: each(need, "x.y v1.0.0 indirect")})
	f, e = modfile.AddRequire(strange(), need("x.y v1.5.0 indirect"))
	want = strange()
	want.Require = each(need, "bad v1", "x.y v1.5.0 indirect", "x.z v1.0.0")
	adds(t, "one in the place of several", f, e, want)
	for given, wantE := range map[string]api.Errno{
		"xy v1.0.0": api.ErrPath, "x.y v1": api.ErrVersion, "x.y v2.0.0": api.ErrMajor, longPath[:101] + " v1.0.0": api.ErrLong, "": api.ErrPath,
		"a.b/c v1.0.0": api.ErrTwice, "a.b/c v1": api.ErrVersion, "a.b/c v2.0.0": api.ErrMajor,
	} {
		f, e := modfile.AddRequire(example(), need(given))
		addsNot(t, "AddRequire of "+given, f, e, wantE)
	}
}

func TestP4_4_AddExclude(t *testing.T) {
	f, e := modfile.AddExclude(example(), module("m.n v1.0.0"))
	want := example()
	want.Exclude = each(module, "m.n v1.0.0")
	adds(t, "the first one", f, e, want)
	f, e = modfile.AddExclude(f, module("m.n v0.1.0"))
	want.Exclude = each(module, "m.n v0.1.0", "m.n v1.0.0")
	adds(t, "a second one", f, e, want)
	f, e = modfile.AddExclude(f, module("m.n v1.0.0"))
	adds(t, "one that is there", f, e, want)
	f, e = modfile.AddExclude(example(), module("a.b/c v1.0.0"))
	want.Exclude = each(module, "a.b/c v1.0.0")
	adds(t, "one of the module itself", f, e, want)
	f, e = modfile.AddExclude(strange(), module("x.y v1.0.0"))
	want = strange()
	want.Exclude = each(module, "bad v1", "x.y v0.1.0", "x.y v1.0.0", "x.z v1.0.0")
	adds(t, "one in the place of several", f, e, want)
	for given, wantE := range map[string]api.Errno{
		"xy v1.0.0": api.ErrPath, "x.y v1": api.ErrVersion, "x.y ": api.ErrVersion, "x.y v2.0.0": api.ErrMajor, longPath[:101] + " v1.0.0": api.ErrLong, "xy v1": api.ErrPath,
	} {
		f, e := modfile.AddExclude(example(), module(given))
		addsNot(t, "AddExclude of "+given, f, e, wantE)
	}
}

func TestP4_4_AddReplace(t *testing.T) {
	f, e := modfile.AddReplace(example(), swap("x.y/z v1.0.0 => m.n v1.0.0"))
	want := example()
	want.Replace = each(swap, "x.y/z => x.w/z v1.3.0", "x.y/z v1.0.0 => m.n v1.0.0")
	adds(t, "a new one", f, e, want)
	f, e = modfile.AddReplace(f, swap("x.y/z => m.n v1.1.0"))
	want.Replace = each(swap, "x.y/z => m.n v1.1.0", "x.y/z v1.0.0 => m.n v1.0.0")
	adds(t, "one in the place of another", f, e, want)
	f, e = modfile.AddReplace(f, swap("x.y/z v1.0.0 => m.o v1.1.0"))
	want.Replace = each(swap, "x.y/z => m.n v1.1.0", "x.y/z v1.0.0 => m.o v1.1.0")
	adds(t, "one in the place of another with a version", f, e, want)
	f, e = modfile.AddReplace(strange(), swap("x.y => x.q v1.0.0"))
	want = strange()
	want.Replace = each(swap, "bad x => e v1", "x.y => x.q v1.0.0", "x.y v1.0.0 => c v1", "x.y v1.0.0 => f v1", "x.z => a v1")
	adds(t, "one in the place of several", f, e, want)
	for given, wantE := range map[string]api.Errno{
		"xy => x.z v1.0.0": api.ErrPath, "x.y v1 => x.z v1.0.0": api.ErrVersion, "x.y v2.0.0 => x.z v1.0.0": api.ErrMajor, "x.y => xz v1.0.0": api.ErrPath, "x.y => x.z ": api.ErrVersion, "x.y => x.z v2.0.0": api.ErrMajor,
		"xy v1 => xz v2": api.ErrPath, "x.y v1 => xz v2.0.0": api.ErrVersion, longPath[:101] + " => x.z v1.0.0": api.ErrLong,
	} {
		f, e := modfile.AddReplace(example(), swap(given))
		addsNot(t, "AddReplace of "+given, f, e, wantE)
	}
}

func TestP4_4_AddRetract(t *testing.T) {
	f, e := modfile.AddRetract(example(), span("v0.1.0 v0.1.0"))
	want := example()
	want.Retract = each(span, "v0.1.0 v0.1.0", "v1.0.0 v1.1.0")
	adds(t, "a new one", f, e, want)
	f, e = modfile.AddRetract(f, span("v1.0.0 v1.1.0"))
	adds(t, "one that is there", f, e, want)
	f, e = modfile.AddRetract(f, span("v1.0.0 v1.0.0"))
	want.Retract = each(span, "v0.1.0 v0.1.0", "v1.0.0 v1.0.0", "v1.0.0 v1.1.0")
	adds(t, "one with the same beginning", f, e, want)
	f, e = modfile.AddRetract(strange(), span("v1.0.0 v1.1.0"))
	want = strange()
	want.Retract = each(span, "bad x", "v1.0.0 v1.0.0", "v1.0.0 v1.1.0", "v1.1.0 v1.0.0")
	adds(t, "one in the place of several", f, e, want)
	for given, wantE := range map[string]api.Errno{
		"v1 v1.0.0": api.ErrVersion, "v1.0.0 v1": api.ErrVersion, "v1.0.0": api.ErrVersion, "": api.ErrVersion, "v1.1.0 v1.0.0": api.ErrRange, "v1.0.0 a": api.ErrVersion,
	} {
		f, e := modfile.AddRetract(example(), span(given))
		addsNot(t, "AddRetract of "+given, f, e, wantE)
	}
}

// An Add of a fault is refused for it ahead of ErrMany; one in the place of
// another is none more; the other lists are not looked at.
func TestP4_4_AddOfMany(t *testing.T) {
	almost, most, over := full(api.MaxMods-1), full(api.MaxMods), full(api.MaxMods+1)
	for _, step := range []struct {
		f           modfile.File
		fresh, here api.Errno
	}{{almost, api.OK, api.OK}, {most, api.ErrMany, api.OK}, {over, api.ErrMany, api.ErrMany}} {
		adds := func(what string, f modfile.File, e, want api.Errno) {
			t.Helper()
			is(t, fmt.Sprint(what, " to ", len(step.f.Require)), e, want)
			is(t, what+": whether there is an answer", f.Module != "", want == api.OK)
		}
		f, e := modfile.AddRequire(step.f, need("n.n v1.0.0"))
		adds("AddRequire of a new one", f, e, step.fresh)
		f, e = modfile.AddRequire(step.f, need("x.y/7 v1.1.0"))
		adds("AddRequire of one that is there", f, e, step.here)
		f, e = modfile.AddRequire(step.f, need("n.n v2.0.0"))
		adds("AddRequire of a wrong one", f, e, api.ErrMajor)
		f, e = modfile.AddRequire(step.f, need("a.b v1.0.0"))
		adds("AddRequire of the module", f, e, api.ErrTwice)
		f, e = modfile.AddExclude(step.f, module("n.n v1.0.0"))
		adds("AddExclude of a new one", f, e, step.fresh)
		f, e = modfile.AddExclude(step.f, module("x.y v1.7.0"))
		adds("AddExclude of one that is there", f, e, step.here)
		f, e = modfile.AddExclude(step.f, module("n.n v1"))
		adds("AddExclude of a wrong one", f, e, api.ErrVersion)
		f, e = modfile.AddReplace(step.f, swap("n.n => x.z v1.0.0"))
		adds("AddReplace of a new one", f, e, step.fresh)
		f, e = modfile.AddReplace(step.f, swap("x.y/7 => x.w v1.0.0"))
		adds("AddReplace of one that is there", f, e, step.here)
		f, e = modfile.AddReplace(step.f, swap("nn => x.z v1.0.0"))
		adds("AddReplace of a wrong one", f, e, api.ErrPath)
		f, e = modfile.AddRetract(step.f, span("v0.1.0 v0.1.0"))
		adds("AddRetract of a new one", f, e, step.fresh)
		f, e = modfile.AddRetract(step.f, span("v1.7.0 v1.7.9"))
		adds("AddRetract of one that is there", f, e, step.here)
		f, e = modfile.AddRetract(step.f, span("v1.1.0 v1.0.0"))
		adds("AddRetract of a wrong one", f, e, api.ErrRange)
	}
	// Two that go make room for the one that comes.
	over.Require[0] = over.Require[1]
	f, e := modfile.AddRequire(over, over.Require[1])
	is(t, "AddRequire in the place of two", fmt.Sprint(len(f.Require), e), fmt.Sprint(api.MaxMods, api.OK))
	over.Replace = append(over.Replace, over.Replace[0])
	f, e = modfile.AddReplace(over, over.Replace[0])
	addsNot(t, "AddReplace in the place of two of too many", f, e, api.ErrMany)
	f, e = modfile.AddExclude(modfile.File{Require: over.Require, Replace: over.Replace, Retract: over.Retract}, module("n.n v1.0.0"))
	is(t, "AddExclude where other lists are too long", fmt.Sprint(len(f.Require), len(f.Exclude), e), fmt.Sprint(api.MaxMods+1, 1, api.OK))
}

func TestP4_4_Drops(t *testing.T) {
	want := strange()
	f, was := modfile.DropRequire(strange(), "x.y")
	want.Require = each(need, "bad v1", "x.z v1.0.0")
	drops(t, "DropRequire of several", f, was, want, true)
	f, was = modfile.DropRequire(strange(), "bad")
	want.Require = each(need, "x.z v1.0.0", "x.y v1.0.0", "x.y v0.1.0 indirect", "x.y v1.0.0")
	drops(t, "DropRequire of a wrong one", f, was, want, true)

	want = strange()
	f, was = modfile.DropExclude(strange(), module("x.y v1.0.0"))
	want.Exclude = each(module, "bad v1", "x.y v0.1.0", "x.z v1.0.0")
	drops(t, "DropExclude of several", f, was, want, true)

	want = strange()
	f, was = modfile.DropReplace(strange(), module("x.y"))
	want.Replace = each(swap, "bad x => e v1", "x.y v1.0.0 => c v1", "x.y v1.0.0 => f v1", "x.z => a v1")
	drops(t, "DropReplace of several", f, was, want, true)
	f, was = modfile.DropReplace(strange(), module("x.y v1.0.0"))
	want.Replace = each(swap, "bad x => e v1", "x.y => b v1", "x.y => d v1", "x.z => a v1")
	drops(t, "DropReplace of several with a version", f, was, want, true)

	want = strange()
	f, was = modfile.DropRetract(strange(), span("v1.0.0 v1.1.0"))
	want.Retract = each(span, "bad x", "v1.0.0 v1.0.0", "v1.1.0 v1.0.0")
	drops(t, "DropRetract of several", f, was, want, true)
	f, was = modfile.DropRetract(strange(), span("v1.1.0 v1.0.0"))
	want.Retract = each(span, "v1.0.0 v1.1.0", "bad x", "v1.0.0 v1.1.0", "v1.0.0 v1.0.0")
	drops(t, "DropRetract of one turned round", f, was, want, true)
}

func TestP4_4_DropsOfWhatIsNotThere(t *testing.T) {
	for _, given := range []modfile.File{strange(), example(), {}, full(api.MaxMods + 1)} {
		for _, path := range []string{"", "x", "x.y ", "X.Y", "x.yz", "wrong", "a.b/c"} {
			f, was := modfile.DropRequire(given, path)
			drops(t, "DropRequire of "+path, f, was, given, false)
		}
		for _, m := range each(module, "", "x.y", "x.y v1.0.00", "x.y v2.0.0", "x.yz v1.0.0", "bad") {
			f, was := modfile.DropExclude(given, m)
			drops(t, "DropExclude of "+m.Path, f, was, given, false)
		}
		for _, m := range each(module, "", "x.y v2.0.0", "x.y v1", "a v1", "b v1", "bad", "x.z v1.0.0", "x.w/z v1.3.0") {
			f, was := modfile.DropReplace(given, m)
			drops(t, "DropReplace of "+m.Path, f, was, given, false)
		}
		for _, r := range each(span, "", "v1.0.0", "v1.1.0 v1.1.0", "x bad", " v1.0.0", "v1.0.0 v1.2.0") {
			f, was := modfile.DropRetract(given, r)
			drops(t, "DropRetract of "+r.Low, f, was, given, false)
		}
	}
}

func TestP4_4_DropsOfTheLast(t *testing.T) {
	one := full(1)
	f, was := modfile.DropRequire(one, "x.y/0")
	is(t, "DropRequire", fmt.Sprint(was, len(f.Require), len(f.Exclude), len(f.Replace), len(f.Retract)), "true 0 1 1 1")
	f, was = modfile.DropExclude(f, module("x.y v1.0.0"))
	is(t, "DropExclude", fmt.Sprint(was, len(f.Require), len(f.Exclude), len(f.Replace), len(f.Retract)), "true 0 0 1 1")
	f, was = modfile.DropReplace(f, module("x.y/0"))
	is(t, "DropReplace", fmt.Sprint(was, len(f.Require), len(f.Exclude), len(f.Replace), len(f.Retract)), "true 0 0 0 1")
	f, was = modfile.DropRetract(f, span("v1.0.0 v1.0.9"))
	is(t, "DropRetract", fmt.Sprint(was, len(f.Require), len(f.Exclude), len(f.Replace), len(f.Retract)), "true 0 0 0 0")
	is(t, "the module", f.Module, "a.b")
}
