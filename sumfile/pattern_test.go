package sumfile_test

import (
	"fmt"
	"strings"
	"testing"

	"mews/api"
	"mews/sumfile"
)

func TestExamplesOfPatterns(t *testing.T) {
	globs(t, "*.b", "a.b", true)
	globs(t, "*", "a/b", false)
	globs(t, "a?c", "abc", true)
	globs(t, "", "", true)
	splits(t, "a.b/*,*.corp", api.OK, "a.b/*", "*.corp")
	splits(t, "a,,b", api.ErrForm)
	splits(t, "/a", api.ErrForm)
	matches(t, []string{"a.b/*"}, "a.b/c/d", true)
	matches(t, []string{"a.b/*"}, "a.b", false)
	matches(t, []string{"*.corp"}, "x.corp/y", true)
}

func globs(t *testing.T, pattern, s string, want bool) {
	t.Helper()
	is(t, fmt.Sprintf("Glob(%.60q, %.60q)", pattern, s), sumfile.Glob(pattern, s), want)
}

func matches(t *testing.T, patterns []string, path string, want bool) {
	t.Helper()
	is(t, fmt.Sprintf("Match(%.60q, %.60q)", patterns, path), sumfile.Match(patterns, path), want)
}

// splits fails the test unless the text is these patterns, or an error.
func splits(t *testing.T, s string, wantE api.Errno, want ...string) {
	t.Helper()
	l, e := sumfile.Patterns(s)
	is(t, fmt.Sprintf("Patterns(%.60q), its error", s), e, wantE)
	isList(t, fmt.Sprintf("Patterns(%.60q)", s), l, want)
}

func TestP5_5_Glob(t *testing.T) {
	for _, c := range []struct {
		pattern string
		is, not []string
	}{
		{"", []string{""}, []string{"a", "/", " ", "*"}},
		{"a", []string{"a"}, []string{"", "b", "A", "aa", "a/", "/a"}},
		{"*", []string{"", "a", "abc", "a.b", "*", "?", "\x00", "\xff\xfe", "é"}, []string{"/", "a/", "/a", "a/b"}},
		{"?", []string{"a", "*", "?", ".", "\x00", "\xff"}, []string{"", "/", "ab", "é", "a/"}},
		{"??", []string{"ab", "é"}, []string{"", "a", "abc", "a/", "/a", "//"}},
		{"**", []string{"", "a", "ab"}, []string{"/", "a/b"}},
		{"*?", []string{"a", "ab", "abc"}, []string{"", "/", "a/", "/a"}},
		{"?*", []string{"a", "ab", "abc"}, []string{"", "/", "a/", "/a"}},
		{"*?*?*", []string{"ab", "abc"}, []string{"", "a", "a/b"}},
		{"*a", []string{"a", "ba", "aa", "aba"}, []string{"", "b", "ab", "/a", "a/"}},
		{"a*", []string{"a", "ab", "aa", "aba"}, []string{"", "b", "ba", "a/", "a/b"}},
		{"*a*", []string{"a", "ab", "ba", "bab"}, []string{"", "b", "a/", "/a", "b/a"}},
		{"a*b*c", []string{"abc", "aXbYc", "abbc", "abcbc", "abcc", "aXbYbZc"}, []string{"ac", "abcd", "xabc", "aXbYcZ", "acb", "a/bc", "ab/c"}},
		{"a*a*a", []string{"aaa", "aaaa", "abaca"}, []string{"aa", "aba", "aab"}},
		{"*ab", []string{"ab", "aab", "abab", "aaab"}, []string{"aba", "abb", "a/ab"}},
		{"a?c", []string{"abc", "a?c", "a*c", "acc"}, []string{"ac", "a/c", "abbc", "abd"}},
		{"/", []string{"/"}, []string{"", "a", "//"}},
		{"*/*", []string{"/", "a/", "/a", "a/b", "abc/def"}, []string{"", "a", "a/b/c", "//"}},
		{"?/?", []string{"a/b"}, []string{"/", "a/", "/a", "aa/b", "///"}},
		{"*/", []string{"/", "a/"}, []string{"", "a", "a/b", "//"}},
		{"/*", []string{"/", "/a"}, []string{"", "a", "a/b", "//"}},
		{"a*/b", []string{"a/b", "aX/b", "aa/b"}, []string{"ab", "a/c/b", "a//b", "aX/bb", "b/b"}},
		{"a/*b", []string{"a/b", "a/Xb", "a/bb"}, []string{"ab", "a/c/b", "a/", "a/b/"}},
		{"*a*b", []string{"ab", "aab", "xaxb", "abab"}, []string{"a/ab", "a/b", "ba", "abc"}},
		{"*/a*b", []string{"/ab", "x/aab", "x/ab"}, []string{"ab", "x/y/ab", "x/a/b"}},
		{"*a/*a/*a", []string{"a/a/a", "ba/aa/aba"}, []string{"a/a", "a/b/a", "a/a/a/a", "a/a/ab"}},
		{"a.b", []string{"a.b"}, []string{"aXb", "ab"}},
		{"[a]", []string{"[a]"}, []string{"a"}},
		{"[^a]", []string{"[^a]"}, []string{"b"}},
		{`\*`, []string{`\`, `\a`, `\*`}, []string{"*", "a"}},
		{"{a,b}", []string{"{a,b}"}, []string{"a", "b"}},
		{"\xc3?", []string{"é", "\xc3a"}, []string{"\xc3", "\xc3/"}},
		{"a\nb*", []string{"a\nb", "a\nb\n"}, []string{"a", "ab"}},
	} {
		for _, s := range c.is {
			globs(t, c.pattern, s, true)
		}
		for _, s := range c.not {
			globs(t, c.pattern, s, false)
		}
	}
}

// Each byte stands for itself, but `*` and `?`; those stand for each but `/`.
func TestP5_5_GlobOfEachByte(t *testing.T) {
	for c := range 256 {
		one := string([]byte{byte(c)})
		globs(t, "*", one, one != "/")
		globs(t, "?", one, one != "/")
		globs(t, "a*b", "a"+one+"b", one != "/")
		globs(t, "a?b", "a"+one+"b", one != "/")
		for other := range 256 {
			two := string([]byte{byte(other)})
			globs(t, one, two, one == two || (one == "*" || one == "?") && two != "/")
		}
	}
}

// modelGlob asks for the rest of the pattern and of the text, and knows nothing
// of places to go back to.
func modelGlob(pattern, s string) bool {
	if pattern == "" {
		return s == ""
	}
	rest := s != "" && s[0] != '/'
	switch pattern[0] {
	case '*':
		return modelGlob(pattern[1:], s) || rest && modelGlob(pattern, s[1:])
	case '?':
		return rest && modelGlob(pattern[1:], s[1:])
	}
	return s != "" && s[0] == pattern[0] && modelGlob(pattern[1:], s[1:])
}

// texts are all of these signs that have at most so many.
func texts(signs string, most int) []string {
	all, last := []string{""}, []string{""}
	for range most {
		var longer []string
		for _, s := range last {
			for i := range len(signs) {
				longer = append(longer, s+signs[i:i+1])
			}
		}
		all, last = append(all, longer...), longer
	}
	return all
}

func TestP5_5_GlobOfAllShortTexts(t *testing.T) {
	all := append(texts("ab/", 5), texts("a*?/", 3)...)
	for _, pattern := range texts("ab*?/", 5) {
		for _, s := range all {
			if sumfile.Glob(pattern, s) != modelGlob(pattern, s) {
				t.Fatalf("Glob(%q, %q): %v", pattern, s, sumfile.Glob(pattern, s))
			}
		}
	}
	all = texts("a/", 9)
	for _, pattern := range texts("a*/", 7) {
		for _, s := range all {
			if sumfile.Glob(pattern, s) != modelGlob(pattern, s) {
				t.Fatalf("Glob(%q, %q): %v", pattern, s, sumfile.Glob(pattern, s))
			}
		}
	}
}

// Patterns that a matcher which tries everything would never end with, and ones
// that are too deep for one that calls itself byte by byte.
func TestP5_5_GlobEnds(t *testing.T) {
	as := strings.Repeat("a", 3000)
	globs(t, strings.Repeat("*a", 300), as, true)
	globs(t, strings.Repeat("*a", 300), as+"b", false)
	globs(t, strings.Repeat("a*", 300)+"b", as, false)
	globs(t, strings.Repeat("*", 3000), as, true)
	globs(t, strings.Repeat("*", 3000)+"b", as, false)
	globs(t, strings.Repeat("*a*/", 300), strings.Repeat("aaa/", 300), true)
	globs(t, strings.Repeat("*a*/", 300), strings.Repeat("aaa/", 299)+"bbb/", false)
	long := strings.Repeat("abc/", 1<<22)
	globs(t, long, long, true)
	globs(t, long+"*", long, true)
	globs(t, long, long[1:], false)
	globs(t, strings.Repeat("?", 1<<24), strings.Repeat("a", 1<<24), true)
	globs(t, strings.Repeat("*", 1<<24), strings.Repeat("a", 1<<24), true)
	globs(t, "*", strings.Repeat("a", 1<<24), true)
	globs(t, "*b", strings.Repeat("a", 1<<24), false)
}

func TestP5_5_Patterns(t *testing.T) {
	splits(t, "", api.OK)
	splits(t, "a", api.OK, "a")
	splits(t, "b,a,b", api.OK, "b", "a", "b")
	splits(t, "*,?,**,a/*/b,?/?,!~", api.OK, "*", "?", "**", "a/*/b", "?/?", "!~")
	splits(t, `\,"[x]`, api.OK, `\`, `"[x]`)
	for _, s := range []string{
		",", ",,", "a,", ",a", "a,,b", "/", "//", "/a", "a/", "a//b", "*//*", "a,/b", "a/,b", "a,b/", "a,b//c", "a b", " a", "a ", "a, b", " ", "a\tb", "a\n", "é", "a,\x00", "\x7f", "\xff", "a/,", "/,a",
	} {
		splits(t, s, api.ErrForm)
	}
}

func TestP5_5_PatternsOfEachByte(t *testing.T) {
	for c := range 256 {
		one := string([]byte{byte(c)})
		switch {
		case one == ",":
			splits(t, "a"+one+"b", api.OK, "a", "b")
			splits(t, one, api.ErrForm)
		case one == "/":
			splits(t, "a"+one+"b", api.OK, "a/b")
			splits(t, one, api.ErrForm)
			splits(t, "a"+one, api.ErrForm)
			splits(t, one+"a", api.ErrForm)
		case c >= 0x21 && c <= 0x7e:
			splits(t, one, api.OK, one)
			splits(t, "a"+one+"b,"+one, api.OK, "a"+one+"b", one)
		default:
			splits(t, one, api.ErrForm)
			splits(t, "a"+one, api.ErrForm)
			splits(t, one+"a", api.ErrForm)
			splits(t, "a,b"+one+"c,d", api.ErrForm)
		}
	}
}

func TestP5_5_PatternsAtTheBounds(t *testing.T) {
	most := strings.Repeat("a", api.MaxLine)
	splits(t, most, api.OK, most)
	splits(t, most+"a", api.ErrLong)
	splits(t, strings.Repeat("a,", 9)+most[18:], api.OK, append(strings.Split(strings.Repeat("a,", 8)+"a", ","), most[18:])...)
	splits(t, strings.Repeat("a,", 19)+"b", api.OK, strings.Split(strings.Repeat("a,", 19)+"b", ",")...)
	splits(t, strings.Repeat("a,", 20)+"b", api.ErrMany)
	splits(t, strings.Repeat("a,", 499)+"bb", api.ErrMany)
	// ErrLong ahead of ErrForm ahead of ErrMany.
	splits(t, strings.Repeat(",", api.MaxLine), api.ErrForm)
	splits(t, strings.Repeat(",", api.MaxLine+1), api.ErrLong)
	splits(t, strings.Repeat("a,", 20), api.ErrForm)
	splits(t, strings.Repeat("a,", 20)+"b/", api.ErrForm)
	splits(t, strings.Repeat("a,", 40)+" ", api.ErrForm)
	splits(t, " "+strings.Repeat("a,", 40)+"b", api.ErrForm)
	splits(t, strings.Repeat("a,", 500)+"b", api.ErrLong)
}

func TestP5_5_Match(t *testing.T) {
	for _, c := range []struct {
		patterns []string
		is, not  []string
	}{
		{nil, nil, []string{"", "a", "a/b"}},
		{[]string{}, nil, []string{"", "a"}},
		{[]string{"a.b"}, []string{"a.b", "a.b/c", "a.b/c/d", "a.b/", "a.b//"}, []string{"", "a", "a.bc", "a.bc/d", "x/a.b", "/a.b", "A.b"}},
		{[]string{"a.b/c"}, []string{"a.b/c", "a.b/c/d", "a.b/c/d/e"}, []string{"", "a.b", "a.b/cd", "a.b/", "a.b//c", "x/a.b/c"}},
		{[]string{"*"}, []string{"", "a", "a.b/c", "/a", "/"}, nil},
		{[]string{"?"}, []string{"a", "a/b"}, []string{"", "ab", "ab/c", "/a"}},
		{[]string{"a.b/*"}, []string{"a.b/c", "a.b/c/d", "a.b/", "a.b//c"}, []string{"a.b", "a.c/d", "x/a.b/c"}},
		{[]string{"*/c"}, []string{"a/c", "/c", "a/c/d"}, []string{"c", "a/b/c", "a/cc"}},
		{[]string{"*.corp"}, []string{"x.corp", "x.corp/y", ".corp", "x.y.corp/z"}, []string{"corp", "x.corps", "x/y.corp", "x.corp.y/z"}},
		{[]string{"a*b/?"}, []string{"ab/c", "aXb/c/d"}, []string{"ab", "ab/cd", "ab/", "a/b/c"}},
		{[]string{"*/*/*"}, []string{"a/b/c", "//", "a/b/c/d"}, []string{"a/b", "a", ""}},
		// An empty pattern, and one that ends with `/`, have an empty element.
		{[]string{""}, []string{"", "/", "/a"}, []string{"a", "a/b", " "}},
		{[]string{"a/"}, []string{"a/", "a//b"}, []string{"a", "a/b", ""}},
		{[]string{"/a"}, []string{"/a", "/a/b"}, []string{"a", "a/a", "/"}},
		{[]string{"/"}, []string{"/", "//", "//a"}, []string{"", "a", "/a", "a/"}},
		{[]string{"a//b"}, []string{"a//b", "a//b/c"}, []string{"a/b", "a/x/b"}},
		// One of them is enough.
		{[]string{"q", "a.b/*"}, []string{"q", "q/r", "a.b/c"}, []string{"a.b", "qq", "r/q"}},
		{[]string{"a/b/c/d", "", "x"}, []string{"x", "x/y", "a/b/c/d/e", "/q"}, []string{"a/b/c", "y"}},
		{[]string{"a,b"}, []string{"a,b", "a,b/c"}, []string{"a", "b"}},
	} {
		for _, path := range c.is {
			matches(t, c.patterns, path, true)
		}
		for _, path := range c.not {
			matches(t, c.patterns, path, false)
		}
	}
}

// modelMatch goes element by element: no `*` and no `?` stands for a `/`.
func modelMatch(patterns []string, path string) bool {
	elements := strings.Split(path, "/")
	for _, pattern := range patterns {
		wanted := strings.Split(pattern, "/")
		all := len(wanted) <= len(elements)
		for i := 0; all && i < len(wanted); i++ {
			all = modelGlob(wanted[i], elements[i])
		}
		if all {
			return true
		}
	}
	return false
}

func TestP5_5_MatchOfAllShortTexts(t *testing.T) {
	paths := texts("ab/", 6)
	for _, pattern := range texts("a*?/", 5) {
		patterns := []string{pattern}
		for _, path := range paths {
			if sumfile.Match(patterns, path) != modelMatch(patterns, path) {
				t.Fatalf("Match(%q, %q): %v", patterns, path, sumfile.Match(patterns, path))
			}
		}
	}
}
