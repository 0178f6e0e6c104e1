package sumfile_test

import (
	"fmt"
	"math/rand"
	"slices"
	"strings"
	"testing"

	"mews/api"
	"mews/sumfile"
)

func TestP5_7_LocksThereAndBack(t *testing.T) {
	chance := rand.New(rand.NewSource(57))
	inOrder := 0
	for range 3000 {
		l := drawLock(chance)
		text, e := sumfile.Format(l)
		is(t, "Format's error", e, api.OK)
		parses(t, text, modelSorted(l))
		if chance.Intn(3) == 0 {
			l = modelSorted(l)
		}
		given := writtenLock(l)
		read, _, e := sumfile.Parse(given)
		is(t, "Parse's error", e, api.OK)
		again, e := sumfile.Format(read)
		is(t, "the error of Format of Parse", e, api.OK)
		is(t, "whether Format of Parse is the text", again == given, slices.Equal(l, modelSorted(l)))
		if again == given {
			inOrder++
		}
	}
	is(t, "whether some were in order, and some not", inOrder > 300 && inOrder < 2700, true)
}

func TestP5_7_VendorListsThereAndBack(t *testing.T) {
	chance := rand.New(rand.NewSource(75))
	inOrder := 0
	for range 3000 {
		l := drawVendor(chance)
		text, e := sumfile.FormatVendor(l)
		is(t, "FormatVendor's error", e, api.OK)
		parsesVendor(t, text, modelVendorSorted(l))
		if chance.Intn(3) == 0 {
			l = modelVendorSorted(l)
		}
		given := writtenVendor(l)
		read, _, e := sumfile.ParseVendor(given)
		is(t, "ParseVendor's error", e, api.OK)
		again, e := sumfile.FormatVendor(read)
		is(t, "the error of FormatVendor of ParseVendor", e, api.OK)
		is(t, "whether FormatVendor of ParseVendor is the text", again == given, sameVendor(l, modelVendorSorted(l)))
		if again == given {
			inOrder++
		}
	}
	is(t, "whether some were in order, and some not", inOrder > 300 && inOrder < 2700, true)
}

// What is taken, of whatever text, can be written, and is taken again.
func TestP5_7_WhateverIsTaken(t *testing.T) {
	chance := rand.New(rand.NewSource(77))
	taken, takenVendor := 0, 0
	for range 3000 {
		if l, _, e := sumfile.Parse(spoiltText(chance, writtenLock(drawLock(chance)))); e == api.OK {
			taken++
			text, e := sumfile.Format(l)
			is(t, "Format's error", e, api.OK)
			parses(t, text, l)
		}
		if l, _, e := sumfile.ParseVendor(spoiltText(chance, writtenVendor(drawVendor(chance)))); e == api.OK {
			takenVendor++
			text, e := sumfile.FormatVendor(l)
			is(t, "FormatVendor's error", e, api.OK)
			parsesVendor(t, text, l)
		}
	}
	is(t, "whether there were enough", taken > 500 && takenVendor > 500, true)
}

// drawLoose is lines of which some stand twice, some have another sum than
// their module and kind have elsewhere, and some are of no known kind.
func drawLoose(chance *rand.Rand) []sumfile.Line {
	l := drawLock(chance)
	for range chance.Intn(4) {
		l = append(l, drawLine(chance))
	}
	if chance.Intn(3) == 0 {
		odd := sumfile.Line{Mod: draw(chance, drawModule(chance), module("x y"), api.Mod{}), Kind: draw(chance, -5, 2, 7), Sum: "odd"}
		l = append(l, odd)
	}
	if chance.Intn(4) == 0 {
		other := drawLine(chance)
		other.Sum = draw(chance, sumA, "", "x")
		l = append(l, other)
	}
	return shuffled(chance, l)
}

// modelMerge keeps sums by module and kind.
func modelMerge(a, b []sumfile.Line) ([]sumfile.Line, api.Errno) {
	sums := map[sumfile.Line]string{}
	var l []sumfile.Line
	for _, line := range slices.Concat(a, b) {
		key := sumfile.Line{Mod: line.Mod, Kind: line.Kind}
		sum, is := sums[key]
		switch {
		case !is:
			sums[key] = line.Sum
			l = append(l, line)
		case sum != line.Sum:
			return nil, api.ErrMismatch
		}
	}
	return modelSorted(l), api.OK
}

func TestP5_8_Merged(t *testing.T) {
	chance := rand.New(rand.NewSource(58))
	found := map[api.Errno]int{}
	for range 6000 {
		a, b := drawLoose(chance), drawLoose(chance)
		l, e := sumfile.Merge(a, b)
		turned, turnedE := sumfile.Merge(b, a)
		is(t, "the error, turned round", turnedE, e)
		isList(t, "Merge, turned round", turned, l)
		want, wantE := modelMerge(a, b)
		is(t, fmt.Sprintf("Merge(%v, %v), its error", a, b), e, wantE)
		isList(t, fmt.Sprintf("Merge(%v, %v)", a, b), l, want)
		found[e]++
		if e != api.OK {
			continue
		}
		for _, line := range slices.Concat(a, b) {
			sum, ok := sumfile.Find(l, line.Mod, line.Kind)
			is(t, "Find in the merged one", fmt.Sprint(sum, ok), fmt.Sprint(line.Sum, true))
		}
		again, e := sumfile.Merge(l, l)
		is(t, "the error of one merged with itself", e, api.OK)
		isList(t, "one merged with itself", again, l)
	}
	is(t, "whether some were merged, and some not", found[api.OK] > 500 && found[api.ErrMismatch] > 500, true)
}

func TestP5_8_MergedWithItself(t *testing.T) {
	chance := rand.New(rand.NewSource(85))
	for range 2000 {
		l := drawLock(chance)
		itself, e := sumfile.Merge(l, l)
		is(t, "its error", e, api.OK)
		isList(t, "merged with itself", itself, modelSorted(l))
		isList(t, "merged with none", func() []sumfile.Line { l, _ := sumfile.Merge(nil, l); return l }(), modelSorted(l))
	}
}

func TestP5_8_Kept(t *testing.T) {
	chance := rand.New(rand.NewSource(88))
	for range 3000 {
		l := drawLoose(chance)
		var all, some []api.Mod
		for _, line := range l {
			all = append(all, line.Mod)
			if chance.Intn(2) == 0 {
				some = append(some, line.Mod)
			}
		}
		isList(t, "Keep of all its modules", sumfile.Keep(l, shuffled(chance, all)), l)
		want := slices.DeleteFunc(slices.Clone(l), func(line sumfile.Line) bool { return !slices.Contains(some, line.Mod) })
		isList(t, "Keep of some", sumfile.Keep(l, some), want)
	}
}

// drawText is a few signs.
func drawText(chance *rand.Rand, signs string, most int) string {
	text := ""
	for range chance.Intn(most + 1) {
		text += string(signs[chance.Intn(len(signs))])
	}
	return text
}

func TestP5_9_Matched(t *testing.T) {
	chance := rand.New(rand.NewSource(59))
	matched, plain := 0, 0
	for range 60000 {
		pattern, path := drawText(chance, "ab*?//", 6), drawText(chance, "ab//", 9)
		if chance.Intn(2) == 0 {
			pattern = strings.NewReplacer("*", "a", "?", "b").Replace(pattern)
		}
		if !sumfile.Match([]string{pattern}, path) {
			continue
		}
		matched++
		if !strings.ContainsAny(pattern, "*?") {
			plain++
			is(t, fmt.Sprintf("whether %q begins with %q", path, pattern), strings.HasPrefix(path, pattern), true)
		}
		matches(t, []string{pattern}, path+"/"+drawText(chance, "ab*?/.", 6), true)
	}
	is(t, "whether there were enough", matched > 3000 && plain > 300, true)
}

func TestP5_9_MatchOfAList(t *testing.T) {
	chance := rand.New(rand.NewSource(95))
	some := 0
	for range 20000 {
		var patterns []string
		for range chance.Intn(4) {
			patterns = append(patterns, drawText(chance, "ab*?/", 4))
		}
		path := drawText(chance, "ab/", 6)
		one := slices.ContainsFunc(patterns, func(p string) bool { return sumfile.Match([]string{p}, path) })
		matches(t, patterns, path, one)
		matches(t, shuffled(chance, patterns), path, one)
		matches(t, patterns, path, modelMatch(patterns, path))
		if one {
			some++
		}
	}
	is(t, "whether there were enough", some > 2000, true)
}
