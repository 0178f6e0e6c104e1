package scan_test

import (
	"cmp"
	"go/ast"
	"go/parser"
	"go/token"
	"regexp"
	"slices"
	"strings"

	"mews/api"
	"mews/scan"
)

// The chapter's tokens, written a second time, each with the letter that it is
// called by. A source is read byte by byte, each as a sign of its own.
var tokenForms = []struct {
	letter string
	form   *regexp.Regexp
}{
	{"-", regexp.MustCompile(`\A[ \t\r]+`)},
	{"-", regexp.MustCompile(`\A/\*(?:[^*\n]|\*+[^*/\n])*\*+/`)},
	{"E", regexp.MustCompile(`\A(?:[\n;]|(?s:/\*.*?\*/))`)},
	{"R", regexp.MustCompile(`\A//[^\n]*`)},
	{"P", regexp.MustCompile(`\Apackage(?:[^A-Za-z0-9_\x{80}-\x{ff}]|\z)`)},
	{"I", regexp.MustCompile(`\Aimport(?:[^A-Za-z0-9_\x{80}-\x{ff}]|\z)`)},
	{"N", regexp.MustCompile(`\A[A-Za-z_\x{80}-\x{ff}][A-Za-z0-9_\x{80}-\x{ff}]*`)},
	{"S", regexp.MustCompile(`\A"(?:[^"\\\n]|\\["\\])*"`)},
	{"S", regexp.MustCompile("\\A`[^`]*`")},
	{"O", regexp.MustCompile(`\A\(`)},
	{"C", regexp.MustCompile(`\A\)`)},
	{"D", regexp.MustCompile(`\A\.`)},
	{"U", regexp.MustCompile("\\A(?:[\"`]|/\\*)")},
	{"X", regexp.MustCompile(`\A(?s:.)`)},
}

// The chapter's source, of these letters; Z is the end of the text.
const (
	specForm  = `[PIND]?S`
	groupForm = `OE*(?:` + specForm + `E+)*(?:` + specForm + `)?C`
	headForm  = `\AE*P[PIN](?:E+I(?:` + specForm + `|` + groupForm + `))*`
)

var (
	wholeForm  = regexp.MustCompile(headForm + `E*Z\z`)
	endedForm  = regexp.MustCompile(headForm + `E+[PNSODCX]`)
	importForm = regexp.MustCompile(`\A[A-Za-z0-9_~+-](?:[A-Za-z0-9._~+-]*[A-Za-z0-9_~+-])?(?:/[A-Za-z0-9_~+-](?:[A-Za-z0-9._~+-]*[A-Za-z0-9_~+-])?)*\z`)
	headOfTag  = regexp.MustCompile(`\A//go:build ([^\n]*)\z`)
)

// canGoOn tells whether something can follow the letters so that they are a
// source. Of what can follow the shortest is tried.
func canGoOn(letters string) bool {
	return slices.ContainsFunc([]string{"", "Z", "SZ", "SCZ", "CZ", "NZ", "PNZ"}, func(more string) bool {
		return wholeForm.MatchString(letters + more)
	})
}

// model is a second reader of sources.
type model struct {
	letters string
	source  scan.Source
	known   map[string]bool // whether letters can go on, as far as that was asked
}

func newModel() *model { return &model{known: map[string]bool{}} }

func (m *model) read(src string) (scan.Source, int, api.Errno) {
	if len(src) > api.MaxText {
		return scan.Source{}, 0, api.ErrLong
	}
	m.letters, m.source = "", scan.Source{}
	signs := signsOf(src)
	line, begins := 1, true
	for signs != "" && !endedForm.MatchString(m.letters) {
		letter, piece := firstToken(signs)
		if e := m.token(letter, bytesOf(piece), begins); e != api.OK {
			return scan.Source{}, line, e
		}
		signs = signs[len(piece):]
		line += strings.Count(piece, "\n")
		begins = strings.HasSuffix(piece, "\n")
	}
	if endedForm.MatchString(m.letters) {
		return m.said(), 0, api.OK
	}
	if e := m.token("Z", "", false); e != api.OK {
		return scan.Source{}, line, e
	}
	return m.said(), 0, api.OK
}

func (m *model) said() scan.Source {
	m.source.Imports = sortedOnce(m.source.Imports)
	return m.source
}

func (m *model) token(letter, text string, begins bool) api.Errno {
	switch letter {
	case "-":
		return api.OK
	case "R":
		return m.comment(text, begins)
	}
	before := m.letters
	m.letters += letter
	if endedForm.MatchString(m.letters) {
		return api.OK
	}
	if !m.goesOn(m.letters) {
		return api.ErrSyntax
	}
	if strings.HasSuffix(before, "P") && !strings.Contains(strings.TrimSuffix(before, "P"), "P") {
		m.source.Package = text
	}
	if letter == "S" {
		path := text[1 : len(text)-1]
		if text[0] == '"' {
			path = regexp.MustCompile(`\\(.)`).ReplaceAllString(path, "$1")
		}
		if len(path) > api.MaxPath || !importForm.MatchString(path) {
			return api.ErrPath
		}
		m.source.Imports = append(m.source.Imports, path)
	}
	return api.OK
}

func (m *model) goesOn(letters string) bool {
	goes, is := m.known[letters]
	if !is {
		goes = canGoOn(letters)
		if len(letters) < 20 {
			m.known[letters] = goes
		}
	}
	return goes
}

func (m *model) comment(text string, begins bool) api.Errno {
	found := headOfTag.FindStringSubmatch(text)
	if found == nil || !begins || strings.Contains(m.letters, "P") {
		return api.OK
	}
	if m.source.Constraint != "" {
		return api.ErrTwice
	}
	m.source.Constraint = strings.Trim(found[1], " \t\r")
	if _, e := modelEval(m.source.Constraint, nil); e != api.OK {
		return api.ErrSyntax
	}
	return api.OK
}

// signsOf is the text with a sign for each byte, bytesOf the text of such signs.
func signsOf(s string) string {
	signs := make([]rune, len(s))
	for i := range len(s) {
		signs[i] = rune(s[i])
	}
	return string(signs)
}

func bytesOf(signs string) string {
	var s []byte
	for _, sign := range signs {
		s = append(s, byte(sign))
	}
	return string(s)
}

func firstToken(signs string) (string, string) {
	for _, f := range tokenForms {
		piece := f.form.FindString(signs)
		switch {
		case piece == "":
		case f.letter == "P":
			return "P", "package"
		case f.letter == "I":
			return "I", "import"
		default:
			return f.letter, piece
		}
	}
	panic("no token")
}

var (
	tagForm  = regexp.MustCompile(`[A-Za-z0-9_.]+`)
	exprForm = regexp.MustCompile(`\A[A-Za-z0-9_.!&|() \t]*\z`)
)

// modelEval has the library's reader of Go's expressions read it, each tag as a
// name of its own.
func modelEval(expr string, tags []string) (bool, api.Errno) {
	if len(expr) > api.MaxLine {
		return false, api.ErrLong
	}
	var names []string
	renamed := tagForm.ReplaceAllStringFunc(expr, func(tag string) string {
		names = append(names, tag)
		return "x" + strings.Repeat("y", len(names)-1)
	})
	read, err := parser.ParseExpr(renamed)
	if err != nil || !exprForm.MatchString(expr) {
		return false, api.ErrSyntax
	}
	return modelHolds(read, func(name string) bool { return slices.Contains(tags, names[len(name)-1]) })
}

func modelHolds(x ast.Expr, holds func(name string) bool) (bool, api.Errno) {
	switch x := x.(type) {
	case *ast.Ident:
		return holds(x.Name), api.OK
	case *ast.ParenExpr:
		return modelHolds(x.X, holds)
	case *ast.UnaryExpr:
		inner, e := modelHolds(x.X, holds)
		if x.Op != token.NOT {
			e = api.ErrSyntax
		}
		return !inner && e == api.OK, e
	case *ast.BinaryExpr:
		a, eA := modelHolds(x.X, holds)
		b, eB := modelHolds(x.Y, holds)
		switch e := cmp.Or(eA, eB); {
		case e != api.OK:
			return false, e
		case x.Op == token.LAND:
			return a && b, api.OK
		case x.Op == token.LOR:
			return a || b, api.OK
		}
	}
	return false, api.ErrSyntax
}

var (
	nameForm = regexp.MustCompile(`\A[^_.].*\.go\z`)
	bothForm = regexp.MustCompile(`_(linux|darwin|windows)_(amd64|arm64)\.go\z`)
	oneForm  = regexp.MustCompile(`_(linux|darwin|windows|amd64|arm64)\.go\z`)
)

func modelName(name string, tags []string) bool {
	if !nameForm.MatchString(name) || strings.HasSuffix(name, "_test.go") {
		return false
	}
	found := oneForm.FindStringSubmatch(name)
	if both := bothForm.FindStringSubmatch(name); both != nil {
		found = both
	}
	for i, piece := range found {
		if i > 0 && !slices.Contains(tags, piece) {
			return false
		}
	}
	return true
}

// modelProvider tries the fronts of a path, the longest first.
func modelProvider(path string, mods []string) (string, api.Errno) {
	for end := len(path); end >= 0; end-- {
		if (end == len(path) || path[end] == '/') && slices.Contains(mods, path[:end]) {
			return path[:end], api.OK
		}
	}
	return "", api.ErrMissing
}

// modelFiles are the directories and imports of the files that count.
func modelFiles(files []api.File, tags []string, within func(dir string) bool) ([]string, []string, api.Errno) {
	var dirs, imports, names []string
	errs := map[string][]api.Errno{}
	m := newModel()
	for _, f := range files {
		dir, base := "", f.Name
		if at := strings.LastIndex(f.Name, "/"); at >= 0 {
			dir, base = f.Name[:at], f.Name[at+1:]
		}
		if !within(dir) || !modelName(base, tags) {
			continue
		}
		s, _, e := m.read(string(f.Data))
		if e != api.OK {
			names = append(names, f.Name)
			errs[f.Name] = append(errs[f.Name], e)
			continue
		}
		holds := true
		if s.Constraint != "" {
			holds, _ = modelEval(s.Constraint, tags)
		}
		if holds {
			dirs, imports = append(dirs, dir), append(imports, s.Imports...)
		}
	}
	if len(names) > 0 {
		return nil, nil, errs[slices.Min(names)][0]
	}
	return sortedOnce(dirs), sortedOnce(imports), api.OK
}
