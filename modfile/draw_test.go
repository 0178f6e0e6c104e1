package modfile_test

import (
	"math/rand"
	"slices"
	"strconv"
	"strings"

	"mews/api"
	"mews/mod"
	"mews/modfile"
)

// draw is one of them by chance.
func draw[T any](chance *rand.Rand, all ...T) T { return all[chance.Intn(len(all))] }

func drawPath(chance *rand.Rand) string {
	return draw(chance, "x.y", "x.y/v2", "x.y/z", "a.b", "x.y/Z", "x.w", "q.q/"+strconv.Itoa(chance.Intn(30)))
}

// drawVersion is a version that goes with a path.
func drawVersion(chance *rand.Rand, path string) string {
	if strings.HasSuffix(path, "/v2") {
		return draw(chance, "v2.0.0", "v2.1.0-rc.1")
	}
	return draw(chance, "v1.0.0", "v0.1.0", "v1.2.0", "v1.10.0", "v1.0.0-a", "v1.0.0-a.1", "v0.0.0-20200102030405-abcdefabcdef")
}

func drawModule(chance *rand.Rand) api.Mod {
	path := drawPath(chance)
	return api.Mod{Path: path, Version: drawVersion(chance, path)}
}

func drawRequire(chance *rand.Rand) modfile.Require {
	m := drawModule(chance)
	return modfile.Require{Path: m.Path, Version: m.Version, Indirect: chance.Intn(3) == 0}
}

func drawReplace(chance *rand.Rand) modfile.Replace {
	r := modfile.Replace{Old: drawModule(chance), New: drawModule(chance)}
	if chance.Intn(2) == 0 {
		r.Old.Version = ""
	}
	return r
}

func drawRetract(chance *rand.Rand) modfile.Retract {
	low, high := drawVersion(chance, ""), drawVersion(chance, "")
	if mod.Compare(low, high) > 0 {
		low, high = high, low
	}
	if chance.Intn(2) == 0 {
		high = low
	}
	return modfile.Retract{Low: low, High: high}
}

// drawFile is a manifest that Check takes, its lists in any order.
func drawFile(chance *rand.Rand) modfile.File {
	f := modfile.File{Module: draw(chance, "a.b", "m.m/c", "x.y"), Go: draw(chance, "", "1.0", "1.16", "1.17", "1.999")}
	f.Require = drawList(chance, drawRequire, func(r modfile.Require) string { return r.Path })
	f.Require = slices.DeleteFunc(f.Require, func(r modfile.Require) bool { return r.Path == f.Module })
	f.Exclude = drawList(chance, drawModule, func(m api.Mod) string { return m.Path + " " + m.Version })
	f.Replace = drawList(chance, drawReplace, func(r modfile.Replace) string { return r.Old.Path + " " + r.Old.Version })
	f.Retract = drawList(chance, drawRetract, func(r modfile.Retract) string { return r.Low + " " + r.High })
	return f
}

// drawList is some that are drawn, no two of them with the same name.
func drawList[T any](chance *rand.Rand, one func(*rand.Rand) T, name func(T) string) []T {
	var list []T
	names := map[string]bool{}
	for range chance.Intn(12) {
		if element := one(chance); !names[name(element)] {
			names[name(element)] = true
			list = append(list, element)
		}
	}
	return list
}

// blank is one blank or tab at least.
func blank(chance *rand.Rand) string { return draw(chance, " ", "\t", "  ", " \t ") }

// gap is blanks and tabs, or none.
func gap(chance *rand.Rand) string { return draw(chance, "", "", " ", "\t", " \t") }

// comment is one that says nothing, or none.
func comment(chance *rand.Rand) string {
	return draw(chance, "", "", "", "//", "// why", "//indirectly", "// not indirect", "// )", "//(", "// \xff\"\x00", "///", "// // indirect", "// module x.y")
}

// spaced is tokens, with blanks between.
func spaced(chance *rand.Rand, tokens ...string) string {
	text := tokens[0]
	for _, token := range tokens[1:] {
		text += blank(chance) + token
	}
	return text
}

func writtenRequire(chance *rand.Rand, r modfile.Require) string {
	text := spaced(chance, r.Path, r.Version) + gap(chance)
	if r.Indirect {
		return text + "//" + gap(chance) + "indirect" + gap(chance)
	}
	return text + comment(chance)
}

func writtenExclude(chance *rand.Rand, m api.Mod) string {
	return spaced(chance, m.Path, m.Version) + gap(chance) + comment(chance)
}

func writtenReplace(chance *rand.Rand, r modfile.Replace) string {
	old := r.Old.Path
	if r.Old.Version != "" {
		old = spaced(chance, r.Old.Path, r.Old.Version)
	}
	return spaced(chance, old, "=>", r.New.Path, r.New.Version) + gap(chance) + comment(chance)
}

func writtenRetract(chance *rand.Rand, r modfile.Retract) string {
	if r.Low == r.High && chance.Intn(3) > 0 {
		return r.Low + gap(chance) + comment(chance)
	}
	return "[" + gap(chance) + r.Low + gap(chance) + "," + gap(chance) + r.High + gap(chance) + "]" + gap(chance) + comment(chance)
}

// writtenList is a list's elements in lines of their own and in blocks.
func writtenList[T any](chance *rand.Rand, word string, list []T, one func(*rand.Rand, T) string) []string {
	var parts []string
	for len(list) > 0 || chance.Intn(8) == 0 {
		if len(list) > 0 && chance.Intn(2) == 0 {
			parts = append(parts, gap(chance)+word+blank(chance)+one(chance, list[0]))
			list = list[1:]
			continue
		}
		block := []string{gap(chance) + word + gap(chance) + "(" + gap(chance) + comment(chance)}
		for range chance.Intn(len(list) + 1) {
			if chance.Intn(4) == 0 {
				block = append(block, gap(chance)+comment(chance))
			}
			block = append(block, gap(chance)+one(chance, list[0]))
			list = list[1:]
		}
		parts = append(parts, lines(append(block, gap(chance)+")"+gap(chance)+comment(chance))...))
	}
	return parts
}

// written is one of the many texts of a manifest.
func written(chance *rand.Rand, f modfile.File) string {
	parts := []string{gap(chance) + spaced(chance, "module", f.Module) + gap(chance) + comment(chance)}
	if f.Go != "" {
		parts = append(parts, gap(chance)+spaced(chance, "go", f.Go)+gap(chance)+comment(chance))
	}
	parts = append(parts, writtenList(chance, "require", f.Require, writtenRequire)...)
	parts = append(parts, writtenList(chance, "exclude", f.Exclude, writtenExclude)...)
	parts = append(parts, writtenList(chance, "replace", f.Replace, writtenReplace)...)
	parts = append(parts, writtenList(chance, "retract", f.Retract, writtenRetract)...)
	for range chance.Intn(4) {
		parts = append(parts, gap(chance)+comment(chance))
	}
	return strings.Join(shuffled(chance, parts), "\n") + draw(chance, "", "\n")
}

// spoiltText is the text with something put in that may be a fault, or nothing.
func spoiltText(chance *rand.Rand, text string) string {
	all := strings.Split(text, "\n")
	for range chance.Intn(3) {
		at := chance.Intn(len(all))
		switch chance.Intn(3) {
		case 0:
			all = slices.Insert(all, at, draw(chance, "what", "require (", ")", "module a.c", "go 1.5", "go 1.05", "require x.y v1.0.0", "retract [v1.1.0, v1.0.0]", "exclude(", "require x.y", "// "+strings.Repeat("x", api.MaxLine), "replace x.y=>x.z v1.0.0", "\x00", "=>"))
		case 1:
			all[at] += draw(chance, "xy", " v1.0.0", "=>", " =>", "(", " )", "[", "]", ",", `"`, "\x7f", "/", "//", " // indirect", "é", "\r")
		case 2:
			all[at] = strings.Replace(all[at], draw(chance, "x.", "/", " ", "\t", "v1", "v", "=>", "0", "(", ")", "1", "require"), draw(chance, "", "x", " ", "=", "v2", ",", "1", "exclude"), 1)
		}
	}
	return strings.Join(all, "\n")
}
