package modfile_test

import (
	"fmt"
	"math/rand"
	"regexp"
	"slices"
	"strings"
	"testing"

	"mews/api"
	"mews/mod"
	"mews/modfile"
)

// The forms of the chapter, written a second time: `_` is blanks and tabs or
// none, ` ` one at least, W a word.
func form(s string) *regexp.Regexp {
	s = strings.NewReplacer("_", "[ \t]*", " ", "[ \t]+", "W", `([!#-'*+\-./0-Z\\^-~]+)`).Replace(s)
	return regexp.MustCompile(`\A[ \t]*` + s + `[ \t]*\z`)
}

var (
	emptyForm  = form("")
	moduleForm = form("module W")
	goForm     = form("go 1\\.(0|[1-9][0-9]{0,2})")
	beginForm  = form(`(require|exclude|replace|retract)_\(`)
	endForm    = form(`\)`)
	wordForm   = form(`(require|exclude|replace|retract)([\x20\t()\[\],].*)`)
	pairForm   = form("W W")
	allForm    = form("W => W W")
	oneForm    = form("W W => W W")
	singleForm = form("W")
	rangeForm  = form(`\[_W_,_W_\]`)

	indirectForm = form("indirect")
	minorForm    = regexp.MustCompile(`\A1\.(0|[1-9][0-9]{0,2})\z`)
)

// model is a second reader of manifests.
type model struct {
	file  modfile.File
	block string
}

func modelParse(text string) (modfile.File, int, api.Errno) {
	if len(text) > api.MaxText {
		return modfile.File{}, 0, api.ErrLong
	}
	var m model
	all := strings.Split(strings.TrimSuffix(text, "\n"), "\n")
	if text == "" {
		all = nil
	}
	for i, line := range all {
		if e := m.line(line); e != api.OK {
			return modfile.File{}, i + 1, e
		}
	}
	switch {
	case m.block != "":
		return modfile.File{}, len(all) + 1, api.ErrSyntax
	case m.file.Module == "":
		return modfile.File{}, 0, api.ErrNone
	case slices.ContainsFunc(m.file.Require, func(r modfile.Require) bool { return r.Path == m.file.Module }):
		return modfile.File{}, 0, api.ErrTwice
	}
	return modelCanon(m.file), 0, api.OK
}

func (m *model) line(text string) api.Errno {
	if len(text) > api.MaxLine {
		return api.ErrLong
	}
	comment := ""
	if at := strings.Index(text, "//"); at >= 0 {
		text, comment = text[:at], text[at+2:]
	}
	indirect := indirectForm.MatchString(comment)
	if emptyForm.MatchString(text) {
		return api.OK
	}
	if m.block != "" {
		if endForm.MatchString(text) {
			m.block = ""
			return api.OK
		}
		return m.statement(m.block, text, indirect)
	}
	if s := words(moduleForm, text); s != nil {
		return m.module(s[0])
	}
	if s := goForm.FindStringSubmatch(text); s != nil {
		if m.file.Go != "" {
			return api.ErrTwice
		}
		m.file.Go = "1." + s[1]
		return api.OK
	}
	if s := beginForm.FindStringSubmatch(text); s != nil {
		m.block = s[1]
		return api.OK
	}
	if s := wordForm.FindStringSubmatch(text); s != nil {
		return m.statement(s[1], s[2], indirect)
	}
	return api.ErrSyntax
}

// words are those of a form, if the text has it and none of them is `=>`.
func words(form *regexp.Regexp, text string) []string {
	s := form.FindStringSubmatch(text)
	if s == nil || slices.Contains(s[1:], "=>") {
		return nil
	}
	return s[1:]
}

func (m *model) module(path string) api.Errno {
	if m.file.Module != "" {
		return api.ErrTwice
	}
	m.file.Module = path
	return mod.CheckPath(path)
}

func (m *model) statement(word, text string, indirect bool) api.Errno {
	f := &m.file
	pair, all, one, single, both := words(pairForm, text), words(allForm, text), words(oneForm, text), words(singleForm, text), words(rangeForm, text)
	switch {
	case word == "require" && pair != nil:
		f.Require = append(f.Require, modfile.Require{Path: pair[0], Version: pair[1], Indirect: indirect})
	case word == "exclude" && pair != nil:
		f.Exclude = append(f.Exclude, api.Mod{Path: pair[0], Version: pair[1]})
	case word == "replace" && all != nil:
		f.Replace = append(f.Replace, modfile.Replace{Old: api.Mod{Path: all[0]}, New: api.Mod{Path: all[1], Version: all[2]}})
	case word == "replace" && one != nil:
		f.Replace = append(f.Replace, modfile.Replace{Old: api.Mod{Path: one[0], Version: one[1]}, New: api.Mod{Path: one[2], Version: one[3]}})
	case word == "retract" && single != nil:
		f.Retract = append(f.Retract, modfile.Retract{Low: single[0], High: single[0]})
	case word == "retract" && both != nil:
		f.Retract = append(f.Retract, modfile.Retract{Low: both[0], High: both[1]})
	default:
		return api.ErrSyntax
	}
	// What is ahead was looked at when it came; the module is looked at last.
	unnamed := *f
	unnamed.Module = "no.such.module"
	return modelCheck(unnamed)
}

// modelCheck counts what is there, by its kind, instead of looking back.
func modelCheck(f modfile.File) api.Errno {
	if e := mod.CheckPath(f.Module); e != api.OK {
		return e
	}
	if f.Go != "" && !minorForm.MatchString(f.Go) {
		return api.ErrSyntax
	}
	if len(f.Require) > 200 || len(f.Exclude) > 200 || len(f.Replace) > 200 || len(f.Retract) > 200 {
		return api.ErrMany
	}
	seen := map[any]int{}
	type path string
	for _, r := range f.Require {
		if e := mod.Check(api.Mod{Path: r.Path, Version: r.Version}); e != api.OK {
			return e
		}
		if seen[path(r.Path)]++; seen[path(r.Path)] > 1 || r.Path == f.Module {
			return api.ErrTwice
		}
	}
	for _, m := range f.Exclude {
		if e := mod.Check(m); e != api.OK {
			return e
		}
		if seen[m]++; seen[m] > 1 {
			return api.ErrTwice
		}
	}
	type old api.Mod
	for _, r := range f.Replace {
		if e := mod.CheckPath(r.Old.Path); e != api.OK {
			return e
		}
		if e := mod.Check(r.Old); r.Old.Version != "" && e != api.OK {
			return e
		}
		if e := mod.Check(r.New); e != api.OK {
			return e
		}
		if seen[old(r.Old)]++; seen[old(r.Old)] > 1 {
			return api.ErrTwice
		}
	}
	for _, r := range f.Retract {
		if !mod.ValidVersion(r.Low) || !mod.ValidVersion(r.High) {
			return api.ErrVersion
		}
		if mod.Compare(r.Low, r.High) == 1 {
			return api.ErrRange
		}
		if seen[r]++; seen[r] > 1 {
			return api.ErrTwice
		}
	}
	return api.OK
}

// modelCanon puts each element behind those that are not greater.
func modelCanon(f modfile.File) modfile.File {
	f.Require = inserted(f.Require, func(a, b modfile.Require) bool { return strings.Compare(a.Path, b.Path) < 0 })
	f.Exclude = inserted(f.Exclude, mod.Less)
	f.Replace = inserted(f.Replace, func(a, b modfile.Replace) bool { return mod.Less(a.Old, b.Old) })
	f.Retract = inserted(f.Retract, func(a, b modfile.Retract) bool {
		return mod.Compare(a.Low, b.Low) < 0 || a.Low == b.Low && mod.Compare(a.High, b.High) < 0
	})
	return f
}

func inserted[T any](list []T, less func(a, b T) bool) []T {
	var sorted []T
	for _, element := range list {
		at := len(sorted)
		for at > 0 && less(element, sorted[at-1]) {
			at--
		}
		sorted = slices.Insert(sorted, at, element)
	}
	return sorted
}

func TestModelOfParse(t *testing.T) {
	chance := rand.New(rand.NewSource(42))
	found := map[api.Errno]int{}
	for range 6000 {
		text := spoiltText(chance, written(chance, drawFile(chance)))
		f, line, e := modfile.Parse(text)
		wantF, wantLine, wantE := modelParse(text)
		if line != wantLine || e != wantE || !same(f, wantF) {
			t.Fatalf("Parse(%q):\n%+v, %d, %d, not\n%+v, %d, %d", text, f, line, e, wantF, wantLine, wantE)
		}
		found[e]++
	}
	for _, e := range []api.Errno{api.OK, api.ErrSyntax, api.ErrTwice, api.ErrPath, api.ErrMajor, api.ErrVersion, api.ErrRange, api.ErrLong} {
		is(t, fmt.Sprintf("whether error %d was drawn", e), found[e] > 0, true)
	}
}

func TestModelOfParseOverLines(t *testing.T) {
	chance := rand.New(rand.NewSource(41))
	tokens := []string{"module", "go", "require", "exclude", "replace", "retract", "(", ")", "[", "]", ",", "=>", "x.y", "a.b", "v1.0.0", "v1.1.0", "1.17", "//", "/", "indirect", " ", " ", " ", "\t", "\n", "\n", "\"", "=", ">", "\r"}
	for range 60000 {
		text := draw(chance, "", "module a.b\n", "require (\n", "module a.b\nretract(\n")
		for range chance.Intn(14) {
			text += draw(chance, tokens...)
		}
		f, line, e := modfile.Parse(text)
		wantF, wantLine, wantE := modelParse(text)
		if line != wantLine || e != wantE || !same(f, wantF) {
			t.Fatalf("Parse(%q):\n%+v, %d, %d, not\n%+v, %d, %d", text, f, line, e, wantF, wantLine, wantE)
		}
	}
}
