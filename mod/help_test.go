package mod_test

import (
	"strings"
	"testing"

	"mews/api"
	"mews/mod"
)

const (
	stamp = "20200102030405"
	rev   = "abcdefabcdef"
	end   = stamp + "-" + rev
)

// is fails the test unless got is want.
func is[T comparable](t *testing.T, what string, got, want T) {
	t.Helper()
	if got != want {
		t.Errorf("%s: %v, not %v", what, got, want)
	}
}

// parts is everything that Parts answers.
type parts struct {
	major, minor, patch int
	pre                 string
	ok                  bool
}

func partsOf(v string) parts {
	major, minor, patch, pre, ok := mod.Parts(v)
	return parts{major, minor, patch, pre, ok}
}

// told is a text and the error beside it.
type told struct {
	text string
	e    api.Errno
}

func pseudo(major int, base, time, rev string) told {
	v, e := mod.Pseudo(major, base, time, rev)
	return told{v, e}
}

func escape(s string) told {
	text, e := mod.Escape(s)
	return told{text, e}
}

func unescape(s string) told {
	text, e := mod.Unescape(s)
	return told{text, e}
}

// origin is everything that SplitPseudo answers.
type origin struct {
	base, time, rev string
	ok              bool
}

func splitPseudo(v string) origin {
	base, time, rev, ok := mod.SplitPseudo(v)
	return origin{base, time, rev, ok}
}

// front is everything that SplitMajor answers.
type front struct {
	path  string
	major int
}

func splitMajor(p string) front {
	path, major := mod.SplitMajor(p)
	return front{path, major}
}

// filled is a text of so many bytes: head, and then as many of a byte as it takes.
func filled(head string, with string, length int) string {
	return head + strings.Repeat(with, length-len(head))
}

// mods are modules, written `path version`.
func mods(lines ...string) []api.Mod {
	var list []api.Mod
	for _, line := range lines {
		path, version, _ := strings.Cut(line, " ")
		list = append(list, api.Mod{Path: path, Version: version})
	}
	return list
}
