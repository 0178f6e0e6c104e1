package sumfile_test

import (
	"fmt"
	"math"
	"slices"
	"strings"
	"testing"

	"mews/api"
	"mews/sumfile"
)

func TestExamplesOfLocks(t *testing.T) {
	is(t, "ValidSum", sumfile.ValidSum(sumA), true)
	is(t, "ValidSum", sumfile.ValidSum("h1:abc"), false)
	is(t, "ValidSum", sumfile.ValidSum(strings.TrimSuffix(sumA, "=")), false)
	parses(t, "a.b/c v1.0.0/go.mod "+sumA+"\n", []sumfile.Line{manifest("a.b/c v1.0.0", sumA)})
	refuses(t, "a.b/c  v1.0.0 "+sumA+"\n", 1, api.ErrSyntax)
	refuses(t, "a.b/c v1.0.0 h1:x\n", 1, api.ErrSum)
	refuses(t, "\n", 1, api.ErrSyntax)
	parses(t, "", nil)
	l, e := sumfile.Merge([]sumfile.Line{tree("a.b/c v1.0.0", sumA)}, []sumfile.Line{tree("a.b/c v1.0.0", sumB)})
	is(t, "Merge's error", e, api.ErrMismatch)
	isList(t, "Merge", l, nil)
}

func TestP5_2_Lines(t *testing.T) {
	for text, want := range map[string][]sumfile.Line{
		"":                                              nil,
		"a.b v1.0.0 " + sumA + "\n":                     {tree("a.b v1.0.0", sumA)},
		"a.b v1.0.0/go.mod " + sumA + "\n":              {manifest("a.b v1.0.0", sumA)},
		"a.b/v2 v2.1.0-rc.1 " + sumA + "\n":             {tree("a.b/v2 v2.1.0-rc.1", sumA)},
		"a.b/go.mod v0.0.0 " + sumB + "\n":              {tree("a.b/go.mod v0.0.0", sumB)},
		longPath + " v1.0.0 " + sumA + "\n":             {tree(longPath+" v1.0.0", sumA)},
		"a.b " + longVersion + " " + sumA + "\n":        {tree("a.b "+longVersion, sumA)},
		"a.b " + longVersion + "/go.mod " + sumA + "\n": {manifest("a.b "+longVersion, sumA)},
		// Tree and Manifest of one version; versions of one path; the order.
		lines("a.b v1.0.0/go.mod "+sumA, "a.b v1.0.0 "+sumA):                                                {tree("a.b v1.0.0", sumA), manifest("a.b v1.0.0", sumA)},
		lines("a.b v1.0.0 "+sumA, "a.b v1.0.0/go.mod "+sumB):                                                {tree("a.b v1.0.0", sumA), manifest("a.b v1.0.0", sumB)},
		lines("a.b v1.10.0 "+sumA, "a.b v1.9.0/go.mod "+sumB, "a.b v1.9.0-rc.1 "+sumA):                      {tree("a.b v1.9.0-rc.1", sumA), manifest("a.b v1.9.0", sumB), tree("a.b v1.10.0", sumA)},
		lines("b.b v1.0.0 "+sumA, "a.b/c v1.0.0 "+sumA, "a.b v1.1.0 "+sumA):                                 {tree("a.b v1.1.0", sumA), tree("a.b/c v1.0.0", sumA), tree("b.b v1.0.0", sumA)},
		lines("a.b/v2 v2.0.0 "+sumA, "a.b/c v1.0.0 "+sumA, "a.b-c/d v1.0.0/go.mod "+sumA):                   {manifest("a.b-c/d v1.0.0", sumA), tree("a.b/c v1.0.0", sumA), tree("a.b/v2 v2.0.0", sumA)},
		lines("a.b v1.1.0 "+sumA, "a.b v1.0.0/go.mod "+sumA, "a.b v1.1.0/go.mod "+sumA, "a.b v1.0.0 "+sumA): {tree("a.b v1.0.0", sumA), manifest("a.b v1.0.0", sumA), tree("a.b v1.1.0", sumA), manifest("a.b v1.1.0", sumA)},
	} {
		parses(t, text, want)
	}
}

// linesAtFault are lines that are at fault, each with its first fault.
func linesAtFault() map[string]api.Errno {
	over := strings.Repeat("a", api.MaxLine+1)
	return map[string]api.Errno{
		"": api.ErrSyntax, " ": api.ErrSyntax, "  ": api.ErrSyntax, "   ": api.ErrSyntax, "a.b": api.ErrSyntax, "a.b v1.0.0": api.ErrSyntax, "a.b v1.0.0 ": api.ErrSyntax, "a.b  " + sumA: api.ErrSyntax, " v1.0.0 " + sumA: api.ErrSyntax,
		" a.b v1.0.0 " + sumA: api.ErrSyntax, "a.b v1.0.0 " + sumA + " ": api.ErrSyntax, "a.b v1.0.0  " + sumA: api.ErrSyntax, "a.b v1.0.0 " + sumA + " x": api.ErrSyntax, "a.b v1.0.0 /go.mod " + sumA: api.ErrSyntax, "a.b v1.0.0" + sumA: api.ErrSyntax,
		"a.b\tv1.0.0\t" + sumA: api.ErrSyntax, "a.b v1.0.0\t" + sumA: api.ErrSyntax, "a.b v1.0.0 " + sumA + " // x": api.ErrSyntax, "// x": api.ErrSyntax, over: api.ErrSyntax, "ab  x": api.ErrSyntax,
		"ab v1.0.0 " + sumA: api.ErrPath, "\ta.b v1.0.0 " + sumA: api.ErrPath, "a.b\r v1.0.0 " + sumA: api.ErrPath, "a.b/ v1.0.0 " + sumA: api.ErrPath, "x y z": api.ErrPath, "\xff v1.0.0 " + sumA: api.ErrPath,
		overPath + " v1.0.0 " + sumA: api.ErrLong, over + " v1.0.0 " + sumA: api.ErrLong, overPath + " x y": api.ErrLong,
		"a.b/v1 v1.0.0 " + sumA: api.ErrMajor, "a.b v2.0.0 " + sumA: api.ErrMajor, "a.b v2.0.0/go.mod " + sumA: api.ErrMajor, "a.b/v2 v1.0.0 " + sumA: api.ErrMajor,
		"a.b v1.0 " + sumA: api.ErrVersion, "a.b v1.0.0/ " + sumA: api.ErrVersion, "a.b v1.0.0/go.modx " + sumA: api.ErrVersion, "a.b v1.0.0/go.mo " + sumA: api.ErrVersion, "a.b v1.0.0/Go.mod " + sumA: api.ErrVersion, "a.b v1.0.0go.mod " + sumA: api.ErrVersion,
		"a.b v1.0.0/go.mod/go.mod " + sumA: api.ErrVersion, "a.b /go.mod " + sumA: api.ErrVersion, "a.b go.mod " + sumA: api.ErrVersion, "a.b /go.modv1.0.0 " + sumA: api.ErrVersion, "a.b v1.0.0//go.mod " + sumA: api.ErrVersion, "a.b " + overVersion + " " + sumA: api.ErrVersion, "a.b " + overVersion + "/go.mod " + sumA: api.ErrVersion,
		"a.b " + sumA + " v1.0.0": api.ErrVersion, "a.b x " + sumA: api.ErrVersion,
		"a.b v1.0.0 x": api.ErrSum, "a.b v1.0.0 h1:x": api.ErrSum, "a.b v1.0.0 " + sumA + "=": api.ErrSum, "a.b v1.0.0 " + sumA[:46]: api.ErrSum, "a.b v1.0.0/go.mod " + sumA + "\r": api.ErrSum, "a.b v1.0.0 " + sumA[:45] + "F=": api.ErrSum, "a.b v1.0.0 " + sumA + "/go.mod": api.ErrSum, "a.b v1.0.0 " + sumA + "\t": api.ErrSum, "a.b v1.0.0 " + over: api.ErrSum,
		// Of several the first.
		"ab x y": api.ErrPath, "a.b/v1 x y": api.ErrMajor, "a.b x y": api.ErrVersion, "a.b v2.0.0 y": api.ErrMajor, "ab x y z": api.ErrSyntax,
	}
}

func TestP5_2_LinesAtFault(t *testing.T) {
	good := []string{"x.y v1.0.0 " + sumA, "x.y v1.0.0/go.mod " + sumA}
	for line, e := range linesAtFault() {
		refuses(t, lines(line), 1, e)
		refuses(t, lines(line, good[0], good[1]), 1, e)
		refuses(t, lines(good[0], line, good[1]), 2, e)
		refuses(t, lines(good[0], good[1], line), 3, e)
		// The first line at fault, whatever those behind it are; its own faults
		// are ahead of the newline that it lacks.
		refuses(t, lines(good[0], line, "", good[0]), 2, e)
		refuses(t, lines(good[0], good[0], line), 2, api.ErrTwice)
		refuses(t, lines(line)+good[0], 1, e)
		if line != "" {
			refuses(t, lines(good[0])+line, 2, e)
		}
	}
}

func TestP5_2_Twice(t *testing.T) {
	a, b, c := "a.b v1.0.0 "+sumA, "a.b v1.0.0/go.mod "+sumA, "x.y v1.0.0 "+sumA
	refuses(t, lines(a, a), 2, api.ErrTwice)
	refuses(t, lines(b, b), 2, api.ErrTwice)
	refuses(t, lines(a, b, a), 3, api.ErrTwice)
	refuses(t, lines(c, b, a, b), 4, api.ErrTwice)
	refuses(t, lines(a, "a.b v1.0.0 "+sumB), 2, api.ErrTwice)
	refuses(t, lines(b, c, "a.b v1.0.0/go.mod "+sumB), 3, api.ErrTwice)
	// A wrong one is none that stands ahead, and is wrong ahead of standing twice.
	refuses(t, lines(a, "a.b v1.0.0 x"), 2, api.ErrSum)
	refuses(t, lines(a)+a, 2, api.ErrTwice)
	refuses(t, lines(a)+b, 2, api.ErrSyntax)
}

func TestP5_2_TheLastNewline(t *testing.T) {
	a, b := "a.b v1.0.0 "+sumA, "a.b v1.0.0/go.mod "+sumA
	parses(t, lines(a, b), []sumfile.Line{tree("a.b v1.0.0", sumA), manifest("a.b v1.0.0", sumA)})
	refuses(t, a, 1, api.ErrSyntax)
	refuses(t, a+"\n"+b, 2, api.ErrSyntax)
	refuses(t, lines(a, b)+"\n", 3, api.ErrSyntax)
	refuses(t, "\n"+lines(a, b), 1, api.ErrSyntax)
	refuses(t, lines(a, "", b), 2, api.ErrSyntax)
	refuses(t, lines(a)+" ", 2, api.ErrSyntax)
	refuses(t, "\r\n", 1, api.ErrSyntax)
	refuses(t, a+"\r\n", 1, api.ErrSum)
	refuses(t, a+"\x00", 1, api.ErrSum)
}

// lockOf is a lock whose text has just so many bytes (300 at least), in order.
func lockOf(size int) ([]sumfile.Line, string) {
	var l []sumfile.Line
	var text strings.Builder
	add := func(size int) {
		path := filled(fmt.Sprintf("x.y/%06d", len(l)), size-len(" v1.0.0 "+sumA+"\n"))
		l = append(l, tree(path+" v1.0.0", sumA))
		text.WriteString(path + " v1.0.0 " + sumA + "\n")
	}
	for size-text.Len() > 300 {
		add(100)
	}
	left := size - text.Len()
	add(left / 2)
	add(left - left/2)
	return l, text.String()
}

func TestP5_2_TextsAtTheBound(t *testing.T) {
	l, text := lockOf(api.MaxText)
	is(t, "its bytes", len(text), api.MaxText)
	parses(t, text, l)
	formats(t, l, text, api.OK)
	refuses(t, text[:len(text)-1], len(l), api.ErrSyntax)
	refuses(t, strings.Replace(text, "\n", " ", 1), 1, api.ErrSyntax)
	refuses(t, strings.Repeat("a", api.MaxText), 1, api.ErrSyntax)
	refuses(t, strings.Repeat("\n", api.MaxText), 1, api.ErrSyntax)

	l, text = lockOf(api.MaxText + 1)
	is(t, "its bytes", len(text), api.MaxText+1)
	refuses(t, text, 0, api.ErrLong)
	formats(t, l, "", api.ErrLong)
	refuses(t, "\n"+text, 0, api.ErrLong)
	refuses(t, strings.Repeat("a", api.MaxText+1), 0, api.ErrLong)
	refuses(t, strings.Repeat(" ", 2*api.MaxText), 0, api.ErrLong)

	// That the text is too long is the last that is looked at.
	formats(t, append(slices.Clone(l), l[0]), "", api.ErrTwice)
	formats(t, append(slices.Clone(l), tree("a.b v1.0.0", "x")), "", api.ErrSum)
	formats(t, append(slices.Clone(l), tree("a.b v1", "x")), "", api.ErrVersion)
	formats(t, append(slices.Clone(l), sumfile.Line{Kind: 2}), "", api.ErrKind)
	big, _ := lockOf(20 * api.MaxText)
	formats(t, big, "", api.ErrLong)
}

func TestP5_2_Format(t *testing.T) {
	formats(t, nil, "", api.OK)
	formats(t, []sumfile.Line{}, "", api.OK)
	formats(t, []sumfile.Line{tree("a.b v1.0.0", sumA)}, "a.b v1.0.0 "+sumA+"\n", api.OK)
	formats(t, []sumfile.Line{manifest("a.b v1.0.0", sumB)}, "a.b v1.0.0/go.mod "+sumB+"\n", api.OK)
	formats(t, []sumfile.Line{manifest(longPath+" "+longVersion, sumB)}, longPath+" "+longVersion+"/go.mod "+sumB+"\n", api.OK)
	formats(t, []sumfile.Line{
		manifest("x.y v1.0.0", sumA), tree("a.b v1.10.0", sumA), tree("x.y v1.0.0", sumB), tree("a.b v1.9.0", sumA), tree("a.b/v2 v2.0.0", sumB), manifest("a.b v1.10.0-a", sumA), tree("a.b-c v0.0.0", sumA),
	}, lines("a.b v1.9.0 "+sumA, "a.b v1.10.0-a/go.mod "+sumA, "a.b v1.10.0 "+sumA, "a.b-c v0.0.0 "+sumA, "a.b/v2 v2.0.0 "+sumB, "x.y v1.0.0 "+sumB, "x.y v1.0.0/go.mod "+sumA), api.OK)
}

func TestP5_2_FormatOfWhatIsAtFault(t *testing.T) {
	good, m := tree("x.y v1.0.0", sumA), module("a.b v1.0.0")
	for _, c := range []struct {
		line sumfile.Line
		e    api.Errno
	}{
		{sumfile.Line{Mod: m, Kind: 2, Sum: sumA}, api.ErrKind}, {sumfile.Line{Mod: m, Kind: -1, Sum: sumA}, api.ErrKind}, {sumfile.Line{Mod: m, Kind: math.MaxInt, Sum: sumA}, api.ErrKind}, {sumfile.Line{Mod: m, Kind: math.MinInt, Sum: sumA}, api.ErrKind},
		{sumfile.Line{Mod: m, Kind: 1 << 32, Sum: sumA}, api.ErrKind}, {sumfile.Line{Mod: m, Kind: 256, Sum: sumA}, api.ErrKind},
		{sumfile.Line{Kind: 2}, api.ErrKind}, {sumfile.Line{}, api.ErrPath}, {sumfile.Line{Kind: 1}, api.ErrPath}, {tree("ab v1.0.0", sumA), api.ErrPath}, {tree("a.b\n v1.0.0", sumA), api.ErrPath}, {tree(overPath+" v1.0.0", sumA), api.ErrLong},
		{tree("a.b ", sumA), api.ErrVersion}, {tree("a.b v1", sumA), api.ErrVersion}, {tree("a.b v1.0.0/go.mod", sumA), api.ErrVersion}, {manifest("a.b v1.0.0/go.mod", sumA), api.ErrVersion}, {tree("a.b "+overVersion, sumA), api.ErrVersion}, {tree("a.b v1.0.0 ", sumA), api.ErrVersion},
		{tree("a.b v2.0.0", sumA), api.ErrMajor}, {manifest("a.b/v2 v1.0.0", sumA), api.ErrMajor}, {tree("a.b/v1 v1.0.0", sumA), api.ErrMajor},
		{tree("a.b v1.0.0", ""), api.ErrSum}, {manifest("a.b v1.0.0", "x"), api.ErrSum}, {tree("a.b v1.0.0", sumA+"\n"), api.ErrSum}, {tree("a.b v1.0.0", sumA[:45]+"F="), api.ErrSum},
		{tree("x.y v1.0.0", sumA), api.ErrTwice}, {tree("x.y v1.0.0", sumB), api.ErrTwice},
		// Of several the first.
		{sumfile.Line{Mod: module("ab v1"), Kind: 2, Sum: "x"}, api.ErrKind}, {tree("ab v1", "x"), api.ErrPath}, {tree("a.b v1", "x"), api.ErrVersion}, {tree("a.b v2.0.0", "x"), api.ErrMajor}, {tree("x.y v1.0.0", "x"), api.ErrSum}, {sumfile.Line{Mod: good.Mod, Kind: 2, Sum: sumA}, api.ErrKind},
	} {
		formats(t, []sumfile.Line{good, c.line}, "", c.e)
		formats(t, []sumfile.Line{manifest("x.y v1.0.0", sumA), good, c.line, {Kind: 2}, {}}, "", c.e)
		if c.e != api.ErrTwice {
			formats(t, []sumfile.Line{c.line}, "", c.e)
			formats(t, []sumfile.Line{c.line, good, good}, "", c.e)
		}
		formats(t, []sumfile.Line{good, good, c.line}, "", api.ErrTwice)
	}
	formats(t, []sumfile.Line{manifest("x.y v1.0.0", sumA), good, manifest("x.y v1.0.0", sumB)}, "", api.ErrTwice)
}

func TestP5_3_Merge(t *testing.T) {
	odd := func(s string, kind int, sum string) sumfile.Line {
		return sumfile.Line{Mod: module(s), Kind: kind, Sum: sum}
	}
	a, b, c := tree("a.b v1.0.0", sumA), manifest("a.b v1.0.0", sumB), tree("a.a v1.0.0", sumA)
	for _, m := range []struct{ one, other, want []sumfile.Line }{
		{nil, nil, nil},
		{[]sumfile.Line{}, []sumfile.Line{}, nil},
		{[]sumfile.Line{a}, nil, []sumfile.Line{a}},
		{[]sumfile.Line{b, a}, []sumfile.Line{c}, []sumfile.Line{c, a, b}},
		{[]sumfile.Line{b, a}, []sumfile.Line{a, b}, []sumfile.Line{a, b}},
		{[]sumfile.Line{a, a, a}, []sumfile.Line{c, a, c}, []sumfile.Line{c, a}},
		{[]sumfile.Line{a, b, c}, []sumfile.Line{a}, []sumfile.Line{c, a, b}},
		{[]sumfile.Line{tree("a.b v1.10.0", sumA)}, []sumfile.Line{tree("a.b v1.9.0", sumB)}, []sumfile.Line{tree("a.b v1.9.0", sumB), tree("a.b v1.10.0", sumA)}},
		// Nothing but modules, kinds and sums is looked at.
		{[]sumfile.Line{{}, {}}, []sumfile.Line{{}}, []sumfile.Line{{}}},
		{[]sumfile.Line{odd("x y", 7, "q"), odd("x y", -3, "q"), odd("x y", 2, "")}, []sumfile.Line{odd("x y", 1, "1"), odd("x y", 0, "0"), odd("x y", 7, "q")}, []sumfile.Line{odd("x y", -3, "q"), odd("x y", 0, "0"), odd("x y", 1, "1"), odd("x y", 2, ""), odd("x y", 7, "q")}},
		{[]sumfile.Line{odd("x y", math.MaxInt, "a"), odd("x y", math.MinInt, "b")}, []sumfile.Line{odd("x y", 0, "c")}, []sumfile.Line{odd("x y", math.MinInt, "b"), odd("x y", 0, "c"), odd("x y", math.MaxInt, "a")}},
		{[]sumfile.Line{odd("a.b v1.0.0", 0, "x"), odd("a.b zz", 0, "y"), odd("a.b", 0, "z"), odd("a.b ab", 0, "w")}, nil, []sumfile.Line{odd("a.b", 0, "z"), odd("a.b ab", 0, "w"), odd("a.b zz", 0, "y"), odd("a.b v1.0.0", 0, "x")}},
		{[]sumfile.Line{odd("b v1.0.0", -1, "x")}, []sumfile.Line{odd("a v1.0.0", 1, "x")}, []sumfile.Line{odd("a v1.0.0", 1, "x"), odd("b v1.0.0", -1, "x")}},
	} {
		for _, l := range [][2][]sumfile.Line{{m.one, m.other}, {m.other, m.one}} {
			got, e := sumfile.Merge(l[0], l[1])
			is(t, fmt.Sprintf("Merge(%v), its error", l), e, api.OK)
			isList(t, fmt.Sprintf("Merge(%v)", l), got, m.want)
		}
	}
}

func TestP5_3_MergeOfUnlikeSums(t *testing.T) {
	a, b, other := tree("a.b v1.0.0", sumA), manifest("a.b v1.0.0", sumB), tree("a.b v1.0.0", sumB)
	wrong, wrongToo := sumfile.Line{Kind: 9, Sum: "x"}, sumfile.Line{Kind: 9}
	for _, l := range [][2][]sumfile.Line{
		{{a}, {other}}, {{a, other}, nil}, {{a, b}, {b, other}}, {{a, a, b, a, other}, {a}}, {{a}, {other, a}}, {{other, b, a}, {b}}, {{wrong}, {wrongToo}}, {{a, wrong, b}, {a, wrongToo, b}}, {{wrong, wrongToo}, {}}, {{a, other}, {a, other}},
	} {
		for _, l := range [][2][]sumfile.Line{l, {l[1], l[0]}} {
			got, e := sumfile.Merge(l[0], l[1])
			is(t, fmt.Sprintf("Merge(%v), its error", l), e, api.ErrMismatch)
			isList(t, fmt.Sprintf("Merge(%v)", l), got, nil)
		}
	}
}

func TestP5_3_Find(t *testing.T) {
	l := []sumfile.Line{
		tree("a.b v1.0.0", "1"), manifest("a.b v1.0.0", "2"), tree("a.b v1.0.0", "3"), tree("a.b v1.1.0", "4"), manifest("x.y v1.0.0", "5"), {Mod: module("x.y v1.0.0"), Kind: -7, Sum: "6"}, {Mod: module("x.y v1.0.0"), Kind: 3}, {Mod: module("x.y v1.0.0"), Kind: 3, Sum: "7"}, {Sum: "8"},
	}
	for _, c := range []struct {
		mod  string
		kind int
		want string
	}{
		{"a.b v1.0.0", 0, "1 true"}, {"a.b v1.0.0", 1, "2 true"}, {"a.b v1.1.0", 0, "4 true"}, {"x.y v1.0.0", 1, "5 true"}, {"x.y v1.0.0", -7, "6 true"}, {"x.y v1.0.0", 3, " true"}, {"", 0, "8 true"},
		{"a.b v1.1.0", 1, " false"}, {"x.y v1.0.0", 0, " false"}, {"a.b v1.0.1", 0, " false"}, {"a.b", 0, " false"}, {" v1.0.0", 0, " false"}, {"A.b v1.0.0", 0, " false"}, {"a.b v1.0.0/go.mod", 0, " false"}, {"a.b v1.0.0", 2, " false"}, {"a.b v1.0.0", -1, " false"}, {"", 1, " false"},
	} {
		sum, ok := sumfile.Find(l, module(c.mod), c.kind)
		is(t, fmt.Sprintf("Find(%q, %d)", c.mod, c.kind), fmt.Sprint(sum, " ", ok), c.want)
		sum, ok = sumfile.Find(nil, module(c.mod), c.kind)
		is(t, fmt.Sprintf("Find(%q, %d) in none", c.mod, c.kind), fmt.Sprint(sum, " ", ok), " false")
	}
}

func TestP5_3_Keep(t *testing.T) {
	a, b, c, d := tree("x.y v1.0.0", "1"), manifest("a.b v1.0.0", "2"), tree("a.b v1.1.0", "3"), tree("a.b v1.0.0", "4")
	l := []sumfile.Line{a, b, c, d, a, {Kind: 5}, b}
	for _, k := range []struct {
		mods []api.Mod
		want []sumfile.Line
	}{
		{nil, nil}, {[]api.Mod{}, nil}, {each(module, "x.y v1.0.0"), []sumfile.Line{a, a}}, {each(module, "a.b v1.0.0"), []sumfile.Line{b, d, b}}, {each(module, "a.b v1.1.0", "x.y v1.0.0"), []sumfile.Line{a, c, a}}, {each(module, "x.y v1.0.0", "x.y v1.0.0"), []sumfile.Line{a, a}},
		{[]api.Mod{{}}, []sumfile.Line{{Kind: 5}}}, {each(module, "a.b", " v1.0.0", "x.y v1.0.1", "a.b/c v1.0.0", "A.b v1.0.0"), nil}, {each(module, "", "a.b v1.1.0", "a.b v1.0.0", "x.y v1.0.0", "q.q v1.0.0"), l},
	} {
		isList(t, fmt.Sprintf("Keep(%v)", k.mods), sumfile.Keep(l, k.mods), k.want)
		isList(t, fmt.Sprintf("Keep of none (%v)", k.mods), sumfile.Keep(nil, k.mods), nil)
	}
}
