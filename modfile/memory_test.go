package modfile_test

import (
	"slices"
	"testing"

	"mews/api"
	"mews/modfile"
)

// roomy is the list with spare room behind it, filled with a mark.
func roomy[T any](list []T, mark T) []T {
	whole := append(slices.Clone(list), mark, mark, mark)
	return whole[:len(list)]
}

// withRoom is the manifest with room behind each of its lists.
func withRoom(f modfile.File) modfile.File {
	f.Require = roomy(f.Require, need("room v1.0.0"))
	f.Exclude = roomy(f.Exclude, module("room v1.0.0"))
	f.Replace = roomy(f.Replace, swap("room => room v1.0.0"))
	f.Retract = roomy(f.Retract, span("room room"))
	return f
}

// whole is the manifest with what lies behind its lists.
func whole(f modfile.File) modfile.File {
	f.Require = f.Require[:cap(f.Require)]
	f.Exclude = f.Exclude[:cap(f.Exclude)]
	f.Replace = f.Replace[:cap(f.Replace)]
	f.Retract = f.Retract[:cap(f.Retract)]
	return f
}

// copied is the manifest in memory of its own.
func copied(f modfile.File) modfile.File {
	f.Require = slices.Clone(f.Require)
	f.Exclude = slices.Clone(f.Exclude)
	f.Replace = slices.Clone(f.Replace)
	f.Retract = slices.Clone(f.Retract)
	return f
}

// spoil writes into all the memory of a manifest's lists.
func spoil(f modfile.File) {
	f = whole(f)
	for i := range f.Require {
		f.Require[i] = need("spoilt v1.0.0")
	}
	for i := range f.Exclude {
		f.Exclude[i] = module("spoilt v1.0.0")
	}
	for i := range f.Replace {
		f.Replace[i] = swap("spoilt => spoilt v1.0.0")
	}
	for i := range f.Retract {
		f.Retract[i] = span("spoilt spoilt")
	}
}

// calls are all that take a manifest and answer one, each of an edit that finds
// what it looks for and of one that doesn't.
func calls() map[string]func(f modfile.File) modfile.File {
	first := func(f modfile.File, _ api.Errno) modfile.File { return f }
	front := func(f modfile.File, _ bool) modfile.File { return f }
	return map[string]func(f modfile.File) modfile.File{
		"Canon":                 modfile.Canon,
		"AddRequire":            func(f modfile.File) modfile.File { return first(modfile.AddRequire(f, need("n.n v1.0.0"))) },
		"AddRequire, there":     func(f modfile.File) modfile.File { return first(modfile.AddRequire(f, need("x.y v1.5.0"))) },
		"AddRequire, wrong":     func(f modfile.File) modfile.File { return first(modfile.AddRequire(f, need("x v1.5.0"))) },
		"AddExclude":            func(f modfile.File) modfile.File { return first(modfile.AddExclude(f, module("n.n v1.0.0"))) },
		"AddExclude, there":     func(f modfile.File) modfile.File { return first(modfile.AddExclude(f, module("x.y v1.0.0"))) },
		"AddReplace":            func(f modfile.File) modfile.File { return first(modfile.AddReplace(f, swap("n.n => o.o v1.0.0"))) },
		"AddReplace, there":     func(f modfile.File) modfile.File { return first(modfile.AddReplace(f, swap("x.y => o.o v1.0.0"))) },
		"AddRetract":            func(f modfile.File) modfile.File { return first(modfile.AddRetract(f, span("v0.0.1 v0.0.2"))) },
		"AddRetract, there":     func(f modfile.File) modfile.File { return first(modfile.AddRetract(f, span("v1.0.0 v1.1.0"))) },
		"DropRequire":           func(f modfile.File) modfile.File { return front(modfile.DropRequire(f, "x.y")) },
		"DropRequire, nothing":  func(f modfile.File) modfile.File { return front(modfile.DropRequire(f, "n.n")) },
		"DropExclude":           func(f modfile.File) modfile.File { return front(modfile.DropExclude(f, module("x.y v1.0.0"))) },
		"DropExclude, nothing":  func(f modfile.File) modfile.File { return front(modfile.DropExclude(f, module("n.n v1.0.0"))) },
		"DropReplace":           func(f modfile.File) modfile.File { return front(modfile.DropReplace(f, module("x.y"))) },
		"DropReplace, nothing":  func(f modfile.File) modfile.File { return front(modfile.DropReplace(f, module("n.n"))) },
		"DropRetract":           func(f modfile.File) modfile.File { return front(modfile.DropRetract(f, span("v1.0.0 v1.1.0"))) },
		"DropRetract, nothing":  func(f modfile.File) modfile.File { return front(modfile.DropRetract(f, span("v9.0.0 v9.0.0"))) },
		"Format and back again": func(f modfile.File) modfile.File { return formatted(f) },
	}
}

func formatted(f modfile.File) modfile.File {
	text, _ := modfile.Format(f)
	again, _, _ := modfile.Parse(text)
	return again
}

// right is a manifest that Check takes, with its lists out of order.
func right() modfile.File {
	return modfile.File{Module: "a.b", Go: "1.17",
		Require: each(need, "x.z v1.0.0", "x.y v1.0.0", "x.a v1.0.0 indirect"),
		Exclude: each(module, "x.z v1.0.0", "x.y v1.0.0"),
		Replace: each(swap, "x.z => o.o v1.0.0", "x.y => o.o v1.0.0"),
		Retract: each(span, "v1.2.0 v1.2.0", "v1.0.0 v1.1.0"),
	}
}

func TestP4_6_WhatIsHandedInAndOut(t *testing.T) {
	for _, given := range []modfile.File{right(), modfile.Canon(right()), strange(), full(1), {Module: "a.b"}} {
		for name, call := range calls() {
			f := withRoom(given)
			before := copied(whole(f))
			first, second := call(f), call(f)
			isFile(t, name+": what was handed in, with its room", whole(f), before)
			isFile(t, name+": the same answer again", second, first)
			kept := copied(second)
			spoil(first)
			isFile(t, name+": what was handed in, when the answer is written", whole(f), before)
			isFile(t, name+": the other answer", second, kept)
			is(t, name+": the other answer's room", spoilt(second), false)
			spoil(f)
			isFile(t, name+": the answer, when what was handed in is written", second, kept)
			isFile(t, name+": nothing is kept", call(withRoom(given)), kept)
		}
	}
}

// spoilt tells whether something wrote into the manifest's memory.
func spoilt(f modfile.File) bool {
	f = whole(f)
	return slices.Contains(f.Require, need("spoilt v1.0.0")) || slices.Contains(f.Exclude, module("spoilt v1.0.0")) ||
		slices.Contains(f.Replace, swap("spoilt => spoilt v1.0.0")) || slices.Contains(f.Retract, span("spoilt spoilt"))
}

func TestP4_6_WhatOnlyAsks(t *testing.T) {
	for _, given := range []modfile.File{right(), strange(), full(1), full(api.MaxMods + 1), {}} {
		f := withRoom(given)
		before := copied(whole(f))
		modfile.Check(f)
		modfile.Format(f)
		modfile.Version(f, "x.y")
		modfile.Pruned(f)
		modfile.Replaced(f, module("x.y v1.0.0"))
		isFile(t, "what was handed in", whole(f), before)
		// What lies behind the lists is not there.
		_, ok := modfile.Version(f, "room")
		is(t, "Version of what lies behind", ok, false)
		is(t, "Replaced of what lies behind", modfile.Replaced(f, module("room")), module("room"))
	}
}

func TestP4_6_ParseAnswersNewMemory(t *testing.T) {
	text, _ := modfile.Format(right())
	first, _, _ := modfile.Parse(text)
	second, _, _ := modfile.Parse(text)
	isFile(t, "Parse", first, modfile.Canon(right()))
	spoil(first)
	isFile(t, "Parse again", second, modfile.Canon(right()))
	is(t, "its room", spoilt(second), false)
}
