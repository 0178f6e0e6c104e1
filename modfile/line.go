package modfile

import (
	"strings"

	"mews/api"
)

// indirect is the comment that a require is indirect by.
const indirect = "indirect"

// marks are the bytes that are a token each.
const marks = "()[],"

// line is what a line says.
type line struct {
	tokens  []string
	comment string
}

// scan takes a line apart, and tells whether each of its bytes may be there.
func scan(text string) (line, bool) {
	code, comment, _ := strings.Cut(text, "//")
	var tokens []string
	for code != "" {
		size := wordSize(code)
		switch {
		case size > 0:
			tokens = append(tokens, code[:size])
		case strings.IndexByte(marks, code[0]) >= 0:
			size = 1
			tokens = append(tokens, code[:size])
		case code[0] == ' ' || code[0] == '\t':
			size = 1
		default:
			return line{}, false
		}
		code = code[size:]
	}
	return line{tokens, comment}, true
}

// wordSize is how many bytes the word has that a text begins with.
func wordSize(code string) int {
	for i := range len(code) {
		if !wordByte(code[i]) {
			return i
		}
	}
	return len(code)
}

func wordByte(c byte) bool {
	return c > ' ' && c <= '~' && c != '"' && strings.IndexByte(marks, c) < 0
}

// shape is the tokens with blanks between, each word as `word`.
func (l line) shape() string {
	kinds := make([]string, len(l.tokens))
	for i, token := range l.tokens {
		kinds[i] = "word"
		if token == "=>" || strings.ContainsAny(token, marks) {
			kinds[i] = token
		}
	}
	return strings.Join(kinds, " ")
}

func readRequire(l line) (Require, bool) {
	m, ok := readMod(l)
	return Require{m.Path, m.Version, strings.Trim(l.comment, " \t") == indirect}, ok
}

func readMod(l line) (api.Mod, bool) {
	if l.shape() != "word word" {
		return api.Mod{}, false
	}
	return api.Mod{Path: l.tokens[0], Version: l.tokens[1]}, true
}

func readReplace(l line) (Replace, bool) {
	t := l.tokens
	switch l.shape() {
	case "word => word word":
		return Replace{api.Mod{Path: t[0]}, api.Mod{Path: t[2], Version: t[3]}}, true
	case "word word => word word":
		return Replace{api.Mod{Path: t[0], Version: t[1]}, api.Mod{Path: t[3], Version: t[4]}}, true
	}
	return Replace{}, false
}

func readRetract(l line) (Retract, bool) {
	t := l.tokens
	switch l.shape() {
	case "word":
		return Retract{t[0], t[0]}, true
	case "[ word , word ]":
		return Retract{t[1], t[3]}, true
	}
	return Retract{}, false
}
