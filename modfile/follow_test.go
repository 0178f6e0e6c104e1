package modfile_test

import (
	"fmt"
	"math/rand"
	"slices"
	"testing"

	"mews/api"
	"mews/modfile"
)

func TestP4_7_ThereAndBack(t *testing.T) {
	chance := rand.New(rand.NewSource(47))
	for range 2000 {
		f := drawFile(chance)
		text, e := modfile.Format(f)
		is(t, "Format's error", e, api.OK)
		parses(t, text, modfile.Canon(f))
	}
	parses(t, "module a.b\n", modfile.File{Module: "a.b"})
	most, _ := modfile.Format(full(api.MaxMods))
	parses(t, most, modfile.Canon(full(api.MaxMods)))
}

func TestP4_7_ParseAnswersWhatCheckTakes(t *testing.T) {
	chance := rand.New(rand.NewSource(74))
	taken := 0
	for range 4000 {
		f, _, e := modfile.Parse(spoiltText(chance, written(chance, drawFile(chance))))
		if e != api.OK {
			continue
		}
		taken++
		is(t, fmt.Sprintf("Check(%+v)", f), modfile.Check(f), api.OK)
		text, e := modfile.Format(f)
		is(t, "Format's error", e, api.OK)
		again, _, _ := modfile.Parse(text)
		isFile(t, "parsed again", again, f)
		same, _ := modfile.Format(again)
		is(t, "formatted again", same, text)
	}
	is(t, "whether there were enough", taken > 1000, true)
}

func TestP4_8_OneForm(t *testing.T) {
	chance := rand.New(rand.NewSource(48))
	alike := 0
	for range 3000 {
		f := drawFile(chance)
		g := mixed(chance, f)
		if chance.Intn(2) == 0 {
			g = changed(chance, g)
		}
		textF, _ := modfile.Format(f)
		textG, _ := modfile.Format(g)
		is(t, fmt.Sprintf("whether the texts are the same of %+v and %+v", f, g), textF == textG, same(modelCanon(f), modelCanon(g)))
		if textF == textG {
			alike++
		}
	}
	is(t, "whether some were the same, and some not", alike > 100 && alike < 2900, true)
}

// changed is the manifest with one thing of it otherwise, if it has that.
func changed(chance *rand.Rand, f modfile.File) modfile.File {
	f = copied(f)
	switch n := chance.Intn(8); {
	case n == 0:
		f.Go = "1.42"
	case n == 1:
		f.Module = "o.o"
	case n == 2 && len(f.Require) > 0:
		f.Require[0].Indirect = !f.Require[0].Indirect
	case n == 3 && len(f.Require) > 0:
		f.Require = f.Require[1:]
	case n == 4 && len(f.Exclude) > 0:
		f.Exclude[0].Path = "o.o"
		f.Exclude[0].Version = "v0.0.1"
	case n == 5 && len(f.Replace) > 0:
		f.Replace[0].New = api.Mod{Path: "o.o", Version: "v0.0.1"}
	case n == 6 && len(f.Retract) > 0:
		f.Retract[0].Low = "v0.0.0-0"
	case n == 7:
		f.Go = ""
	}
	return f
}

func TestP4_8_FormChangesNothing(t *testing.T) {
	chance := rand.New(rand.NewSource(84))
	for range 3000 {
		f := drawFile(chance)
		parses(t, written(chance, f), modelCanon(f))
	}
}

// edit is an Add and the Drop of what it adds.
type edit struct {
	thing string // two edits of one thing are of the same one
	add   func(f modfile.File) (modfile.File, api.Errno)
	drop  func(f modfile.File) (modfile.File, bool)
	times func(f modfile.File) int // how often the very thing is there
	there func(f modfile.File) bool
}

func drawEdit(chance *rand.Rand) edit {
	switch chance.Intn(4) {
	case 0:
		r := drawRequire(chance)
		return edit{
			"require " + r.Path,
			func(f modfile.File) (modfile.File, api.Errno) { return modfile.AddRequire(f, r) },
			func(f modfile.File) (modfile.File, bool) { return modfile.DropRequire(f, r.Path) },
			func(f modfile.File) int { return count(f.Require, r) },
			func(f modfile.File) bool {
				return slices.ContainsFunc(f.Require, func(other modfile.Require) bool { return other.Path == r.Path })
			},
		}
	case 1:
		m := drawModule(chance)
		return edit{
			fmt.Sprint("exclude ", m),
			func(f modfile.File) (modfile.File, api.Errno) { return modfile.AddExclude(f, m) },
			func(f modfile.File) (modfile.File, bool) { return modfile.DropExclude(f, m) },
			func(f modfile.File) int { return count(f.Exclude, m) },
			func(f modfile.File) bool { return slices.Contains(f.Exclude, m) },
		}
	case 2:
		r := drawReplace(chance)
		return edit{
			fmt.Sprint("replace ", r.Old),
			func(f modfile.File) (modfile.File, api.Errno) { return modfile.AddReplace(f, r) },
			func(f modfile.File) (modfile.File, bool) { return modfile.DropReplace(f, r.Old) },
			func(f modfile.File) int { return count(f.Replace, r) },
			func(f modfile.File) bool {
				return slices.ContainsFunc(f.Replace, func(other modfile.Replace) bool { return other.Old == r.Old })
			},
		}
	}
	r := drawRetract(chance)
	return edit{
		fmt.Sprint("retract ", r),
		func(f modfile.File) (modfile.File, api.Errno) { return modfile.AddRetract(f, r) },
		func(f modfile.File) (modfile.File, bool) { return modfile.DropRetract(f, r) },
		func(f modfile.File) int { return count(f.Retract, r) },
		func(f modfile.File) bool { return slices.Contains(f.Retract, r) },
	}
}

func count[T comparable](list []T, wanted T) int {
	n := 0
	for _, element := range list {
		if element == wanted {
			n++
		}
	}
	return n
}

// drawAny is a manifest; by chance one that Check doesn't take.
func drawAny(chance *rand.Rand) modfile.File {
	f := drawFile(chance)
	if chance.Intn(2) == 0 {
		return f
	}
	g := drawFile(chance)
	f.Require = append(slices.Clone(f.Require), g.Require...)
	f.Exclude = append(slices.Clone(f.Exclude), g.Exclude...)
	f.Replace = append(slices.Clone(f.Replace), g.Replace...)
	f.Retract = append(slices.Clone(f.Retract), g.Retract...)
	return f
}

func TestP4_9_AddAndDrop(t *testing.T) {
	chance := rand.New(rand.NewSource(49))
	for range 4000 {
		f, one := drawAny(chance), drawEdit(chance)
		there := one.there(f)
		added, e := one.add(f)
		if e != api.OK {
			is(t, "the error of an Add of "+one.thing, e, api.ErrTwice)
			is(t, "what it adds", one.thing, "require "+f.Module)
			continue
		}
		is(t, "how often is there "+one.thing, one.times(added), 1)
		again, e := one.add(added)
		is(t, "the error of an Add again", e, api.OK)
		isFile(t, "an Add again", again, added)
		dropped, was := one.drop(added)
		is(t, "whether it was there", was, true)
		is(t, "whether it is there", one.there(dropped), false)
		straight, was := one.drop(f)
		is(t, "whether it was there ahead", was, there)
		isFile(t, "a Drop behind an Add, and without it", dropped, straight)
		if !there {
			isFile(t, "a Drop behind an Add", dropped, modelCanon(f))
		}
	}
}

func TestP4_9_EditsChangePlaces(t *testing.T) {
	chance := rand.New(rand.NewSource(94))
	step := func(f modfile.File, one edit, adds bool) (modfile.File, string) {
		if adds {
			g, e := one.add(f)
			if e != api.OK {
				return modfile.Canon(f), fmt.Sprint(e)
			}
			return g, fmt.Sprint(e)
		}
		g, was := one.drop(f)
		return g, fmt.Sprint(was)
	}
	for range 4000 {
		f, one, other := drawAny(chance), drawEdit(chance), drawEdit(chance)
		if one.thing == other.thing {
			continue
		}
		addOne, addOther := chance.Intn(2) == 0, chance.Intn(2) == 0
		g, first := step(f, one, addOne)
		g, second := step(g, other, addOther)
		h, secondAhead := step(f, other, addOther)
		h, firstBehind := step(h, one, addOne)
		isFile(t, one.thing+" and "+other.thing, h, g)
		is(t, "what they told", firstBehind+secondAhead, first+second)
	}
}
