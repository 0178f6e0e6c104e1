package scan_test

import (
	"fmt"
	"math/rand"
	"slices"
	"strings"
	"testing"

	"mews/api"
	"mews/scan"
)

// drawBlank is what may stand between any two tokens and is no end.
func drawBlank(chance *rand.Rand) string {
	s := ""
	for range chance.Intn(3) {
		s += draw(chance, " ", "\t", "\r", "  ", "/**/", "/* \"x` */", "/*//*/", "/***/", "/* ; */", "/*\xff*/")
	}
	return s
}

// drawEnds are ends, at least so many, with blanks.
func drawEnds(chance *rand.Rand, least int) string {
	s := drawBlank(chance)
	for range least + chance.Intn(3) {
		s += draw(chance, "\n", "\n", ";", "//\n", "// import \"q\"\n", "//go:builds (\n", "/*\n*/", "/*\n\n\"*/", "\r\n", " \n") + drawBlank(chance)
	}
	return s
}

func drawName(chance *rand.Rand) string {
	return draw(chance, "a", "b", "x", "_", "é", "import", "package", "a1", "\xff", "main")
}

func drawPath(chance *rand.Rand) string {
	return draw(chance, "b", "b", "c", "d/e", "a.b/c", "a.b/c+d", "fmt", "C", "x~y")
}

// drawSpec is a spec of a path.
func drawSpec(chance *rand.Rand, path string) string {
	s := draw(chance, `"`+path+`"`, `"`+path+`"`, "`"+path+"`")
	switch chance.Intn(3) {
	case 0:
		return "." + drawBlank(chance) + s
	case 1:
		return drawName(chance) + drawBlank(chance) + s
	}
	return s
}

// drawDecls are declarations of imports of these paths, in this order, each
// with an end.
func drawDecls(chance *rand.Rand, paths []string) string {
	s := ""
	for len(paths) > 0 || chance.Intn(9) == 0 {
		s += "import" + drawBlank(chance)
		if len(paths) > 0 && chance.Intn(2) == 0 {
			s += draw(chance, " ", "\t", "/**/") + drawSpec(chance, paths[0]) + drawEnds(chance, 1)
			paths = paths[1:]
			continue
		}
		count := chance.Intn(len(paths) + 1)
		s += "(" + drawEnds(chance, 0)
		for i, path := range paths[:count] {
			s += drawSpec(chance, path)
			least := 1
			if i == count-1 {
				least = 0
			}
			s += drawEnds(chance, least)
		}
		s += ")" + drawEnds(chance, 1)
		paths = paths[count:]
	}
	return s
}

// drawHead is what may stand ahead of a package clause, with the constraint, if
// it is not empty.
func drawHead(chance *rand.Rand, constraint string) string {
	s := drawEnds(chance, 0)
	if constraint == "" {
		return s
	}
	return s + "\n//go:build " + draw(chance, "", " ", "\t") + constraint + draw(chance, "", "\r", " ") + "\n" + drawEnds(chance, 0)
}

// drawGood is a source that is none but by chance at fault.
func drawGood(chance *rand.Rand) string {
	var paths []string
	for range chance.Intn(5) {
		paths = append(paths, drawPath(chance))
	}
	constraint := draw(chance, "", "", "x", "!x && y", "linux||x")
	s := drawHead(chance, constraint) + "package " + drawBlank(chance) + drawName(chance) + drawEnds(chance, 1) + drawDecls(chance, paths)
	return s + draw(chance, "", "", "x", "func f() {", "(", "5", "\"b\"", "}", "// x", ".")
}

// drawSource is a source with something done to it that may be a fault, or nothing.
func drawSource(chance *rand.Rand) string {
	s := drawGood(chance)
	switch chance.Intn(6) {
	case 0:
		return strings.Replace(s, draw(chance, "b", "fmt", "C"), draw(chance, "/", "", "\\\\", "b\"c", ".", "x y", "\\x", "d\n"), 1)
	case 1:
		return strings.Replace(s, "\n", "\n//go:build "+draw(chance, "x", "x", "x y", "", "(a)||b", "z")+draw(chance, "\n", "\n", "\r\n"), 1+chance.Intn(3))
	case 2, 3:
		return s
	}
	for range 1 + chance.Intn(2) {
		at := chance.Intn(len(s) + 1)
		to := min(len(s), at+chance.Intn(4))
		switch chance.Intn(5) {
		case 0:
			s = s[:at] + s[to:]
		case 1:
			s = s[:at] + draw(chance, "\n", ";", "\"", "`", "(", ")", ".", " ", "x", "import ", "package ", "?", "/*", "*/", "//", "\\", "\"/\"", "\"\\\"\"", "``", "\"c\"", "5", "\n//go:build y\n", "\n//go:build (\n", "\n//go:build \n", "\x00") + s[at:]
		case 2:
			s = s[:at]
		case 3:
			s = strings.Replace(s, draw(chance, "import", "package", "\"", "(", ")", "\n", ";", "/*", "*/", "b", "//"), draw(chance, "", "x", "\n", "\"", "/", ".", "(", ")"), 1)
		case 4:
			s = s[at:] + s[:at]
		}
	}
	return s
}

// likeModel fails the test unless Read says of a source what the second reader does.
func likeModel(t *testing.T, m *model, src string) api.Errno {
	t.Helper()
	want, line, e := m.read(src)
	if e != api.OK {
		refuses(t, src, line, e)
		return e
	}
	reads(t, src, want)
	return e
}

func TestP14_1_AllThatAreDrawn(t *testing.T) {
	chance := rand.New(rand.NewSource(141))
	m := newModel()
	found := map[api.Errno]int{}
	for range 30000 {
		found[likeModel(t, m, drawSource(chance))]++
	}
	is(t, fmt.Sprint("whether there were enough of each: ", found), found[api.OK] > 9000 && found[api.ErrSyntax] > 3000 && found[api.ErrPath] > 200 && found[api.ErrTwice] > 50, true)
}

// All sources of a few tokens, behind fronts of which each ends elsewhere.
func TestP14_1_AllOfAFewTokens(t *testing.T) {
	fronts := []string{"", "//go:build x\n", "package ", "package a", "package a\n", "package a\nimport ", "package a\nimport x ", "package a\nimport (", "package a\nimport (x ", "package a\nimport (\"b\"", "package a\nimport \"b\"", "package a\nimport \"b\"\n"}
	pieces := []string{"package ", "import ", "x ", ". ", "\"c\"", "`/`", "( ", ") ", ";", "\n", "/**/", "/*\n*/", "//x\n", "\n//go:build y\n", "? ", "\"", "`", "/*"}
	m := newModel()
	texts := []string{""}
	found := map[api.Errno]int{}
	for length := range 4 {
		for i, text := range texts {
			for k, front := range fronts {
				if length == 3 && i%len(fronts) != k {
					continue // each of the longest ones stands behind one front
				}
				found[likeModel(t, m, front+text)]++
			}
		}
		var longer []string
		for _, text := range texts {
			for _, piece := range pieces {
				longer = append(longer, text+piece)
			}
		}
		texts = longer
	}
	is(t, fmt.Sprint("whether there were enough of each: ", found), found[api.OK] > 1000 && found[api.ErrSyntax] > 1000 && found[api.ErrPath] > 100 && found[api.ErrTwice] > 20, true)
}

// Cut short at each place, a source is at fault there, or isn't, as its form says.
func TestP14_1_CutShort(t *testing.T) {
	m := newModel()
	for _, src := range []string{
		"//go:build linux && !arm64\n\npackage a\nimport ( \"b.c/d\"; x \"fmt\" )\nfunc f() {",
		"/* a\n*/ package/**/a//\nimport . `b`;import(\n_ \"c\" /*\n*/ x`d`)\nimport ()\n\"e\"",
		"\n;//go:build  x\t\r\n// y\npackage é /* z */ ; import \"b\\\\c\"",
		"package a;import \"b\\\"\";x",
	} {
		for i := range len(src) + 1 {
			likeModel(t, m, src[:i])
			likeModel(t, m, src[i:])
			likeModel(t, m, src[:i]+src[min(i+1, len(src)):])
			likeModel(t, m, src[:i]+"\n"+src[i:])
			likeModel(t, m, src[:i]+" "+src[i:])
			likeModel(t, m, src[:i]+"x"+src[i:])
		}
	}
}

// All expressions of a few signs, and longer ones by chance.
func TestP14_2_AllOfAFewSigns(t *testing.T) {
	signs := []string{"a", "b", "!", "&&", "||", "(", ")", " ", "&", "."}
	texts := []string{""}
	taken := 0
	for range 5 {
		var longer []string
		for _, text := range texts {
			for _, sign := range signs {
				expr := text + sign
				longer = append(longer, expr)
				want, e := modelEval(expr, []string{"a"})
				if got, gotE := scan.Eval(expr, []string{"a"}); got != want || gotE != e {
					t.Errorf("Eval(%q): %v, %d, not %v, %d", expr, got, gotE, want, e)
				}
				if e == api.OK {
					taken++
				}
			}
		}
		texts = longer
	}
	is(t, "whether there were enough", taken > 2000, true)
}

func TestP14_2_AllThatAreDrawn(t *testing.T) {
	chance := rand.New(rand.NewSource(142))
	taken := 0
	for range 20000 {
		expr := drawExpr(chance, 4)
		if chance.Intn(3) == 0 {
			at := chance.Intn(len(expr) + 1)
			expr = expr[:at] + draw(chance, "", "a", "!", "&", "&&", "||", "(", ")", " ", "\n", "é", "1") + expr[min(len(expr), at+chance.Intn(2)):]
		}
		tags := some(chance, list("a b c.d _e 1 A"))
		want, e := modelEval(expr, tags)
		if e != api.OK {
			noExpression(t, expr, e)
			continue
		}
		taken++
		evals(t, expr, tags, want)
	}
	is(t, "whether there were enough, and not all", taken > 10000 && taken < 19900, true)
}

// drawExpr is an expression with so many signs within one another at most.
func drawExpr(chance *rand.Rand, depth int) string {
	gap := draw(chance, "", "", " ", "\t")
	if depth == 0 {
		return gap + draw(chance, "a", "b", "c.d", "_e", "1", "A") + gap
	}
	inner := drawExpr(chance, depth-1)
	switch chance.Intn(6) {
	case 0:
		return "!" + gap + inner
	case 1:
		return gap + "!(" + inner + ")" + gap
	case 2:
		return inner
	case 3:
		return "(" + inner + ")" + gap
	}
	return inner + draw(chance, "&&", "||") + drawExpr(chance, depth-1)
}

func TestP14_4_AllThatAreDrawn(t *testing.T) {
	chance := rand.New(rand.NewSource(144))
	found := map[bool]int{}
	for range 30000 {
		path, mods := drawModules(chance)
		want, e := modelProvider(path, mods)
		found[e == api.OK]++
		if e != api.OK {
			providesNot(t, path, mods)
			continue
		}
		provides(t, path, mods, want)
	}
	is(t, fmt.Sprint("whether there were enough: ", found), min(found[true], found[false]) > 3000, true)
}

// drawModules are a path, and modules of which some may be its fronts.
func drawModules(chance *rand.Rand) (string, []string) {
	text := func() string {
		s := draw(chance, "a", "a.b", "a.b", "b", "")
		for range chance.Intn(4) {
			s += draw(chance, "/", "/", "/", "") + draw(chance, "c", "d", "cc", "v2", "")
		}
		return s
	}
	path := text()
	var mods []string
	for range chance.Intn(5) {
		mods = append(mods, draw(chance, text(), text(), path[:chance.Intn(len(path)+1)], path+"/c"))
	}
	return path, shuffled(chance, slices.Concat(mods, some(chance, mods)))
}
