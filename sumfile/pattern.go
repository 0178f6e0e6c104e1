package sumfile

import (
	"slices"
	"strings"

	"mews/api"
)

// maxPatterns is how many pieces a text of patterns may have.
const maxPatterns = 20

// Patterns are the pieces of a text.
func Patterns(s string) ([]string, api.Errno) {
	if s == "" {
		return nil, api.OK
	}
	if len(s) > api.MaxLine {
		return nil, api.ErrLong
	}
	all := strings.Split(s, ",")
	if !allValid(all) {
		return nil, api.ErrForm
	}
	if len(all) > maxPatterns {
		return nil, api.ErrMany
	}
	return all, api.OK
}

func allValid(patterns []string) bool {
	for _, pattern := range patterns {
		if !validPattern(pattern) {
			return false
		}
	}
	return true
}

// validPattern takes no empty element: so it is neither empty, nor has a `/` at
// an end, nor two in a row.
func validPattern(pattern string) bool {
	for i := range len(pattern) {
		if pattern[i] <= ' ' || pattern[i] > '~' {
			return false
		}
	}
	return !slices.Contains(strings.Split(pattern, "/"), "")
}

// Match tells whether a pattern matches a path's beginning.
func Match(patterns []string, path string) bool {
	elements := strings.Split(path, "/")
	return slices.ContainsFunc(patterns, func(pattern string) bool {
		count := strings.Count(pattern, "/") + 1
		return count <= len(elements) && Glob(pattern, strings.Join(elements[:count], "/"))
	})
}

// Glob tells whether a text is what a pattern says. It need not go back further
// than to the last `*`: that one can take whatever one ahead of it could take
// besides, unless the pattern has a `/` between both, and then the text's next
// `/` leaves the one ahead no choice.
func Glob(pattern, s string) bool {
	p, i := 0, 0
	behindStar, taken := -1, 0 // the place behind the last `*`; where what it has taken ends
	for i < len(s) {
		switch {
		case p < len(pattern) && pattern[p] == '*':
			p++
			behindStar, taken = p, i
		case p < len(pattern) && standsFor(pattern[p], s[i]):
			p++
			i++
		case behindStar >= 0 && s[taken] != '/':
			taken++
			p, i = behindStar, taken
		default:
			return false
		}
	}
	return strings.Trim(pattern[p:], "*") == ""
}

// standsFor tells whether a byte of a pattern that is no `*` stands for another.
func standsFor(c, other byte) bool {
	if c == '?' {
		return other != '/'
	}
	return c == other
}
