package scan

import (
	"iter"
	"strings"
	"unicode/utf8"
)

// kind is what a piece of a source is.
type kind int

const (
	blank   kind = iota // a comment within a line, too
	ending              // `;`, a newline, a comment with a newline
	remark              // a `//` comment, without its newline
	word                // a name, also one that is `package` or `import`
	quote               // a string
	opening             // `(`
	closing             // `)`
	dot                 // `.`
	odd                 // a byte that begins no token
	unended             // a comment or a string without an end
	finish              // the end of the source
)

// token is one of a source, or what stands in the place of one.
type token struct {
	kind   kind
	text   string
	line   int  // where it begins, from 1 on
	begins bool // whether nothing stands ahead of it in its line
}

// tokens yields all that is no blank, one by one: what stands behind a source's
// front is not taken apart, whatever it is.
func tokens(src string) iter.Seq[token] {
	return func(yield func(token) bool) {
		line := 1
		for at := 0; at < len(src); {
			k, size := first(src[at:])
			text := src[at : at+size]
			begins := at == 0 || src[at-1] == '\n'
			if k != blank && !yield(token{k, text, line, begins}) {
				return
			}
			line += strings.Count(text, "\n")
			at += size
		}
		yield(token{kind: finish, line: line})
	}
}

// first is what a text that is not empty begins with, and how many bytes that has.
func first(s string) (kind, int) {
	switch c := s[0]; {
	case c == ' ' || c == '\t' || c == '\r':
		return blank, 1
	case c == '\n' || c == ';':
		return ending, 1
	case c == '(':
		return opening, 1
	case c == ')':
		return closing, 1
	case c == '.':
		return dot, 1
	case nameByte(c) && !digit(c):
		return word, run(s, nameByte)
	case c == '"':
		return firstQuoted(s)
	case c == '`':
		return upTo(s, "`", "`", quote)
	case strings.HasPrefix(s, "//"):
		return remark, run(s, func(c byte) bool { return c != '\n' })
	case strings.HasPrefix(s, "/*"):
		return firstComment(s)
	}
	return odd, 1
}

// firstQuoted is a string in `"`. One that cannot go on has no end.
func firstQuoted(s string) (kind, int) {
	for i := 1; i < len(s); i++ {
		switch {
		case s[i] == '"':
			return quote, i + 1
		case s[i] == '\n':
			return unended, i
		case s[i] == '\\':
			i++
			if i == len(s) || s[i] != '"' && s[i] != '\\' {
				return unended, i
			}
		}
	}
	return unended, len(s)
}

// firstComment is one in `/*` and `*/`. With a newline in it, it is an end.
func firstComment(s string) (kind, int) {
	k, size := upTo(s, "/*", "*/", blank)
	if k == blank && strings.Contains(s[:size], "\n") {
		return ending, size
	}
	return k, size
}

// upTo is what goes from the mark that a text begins with to the next other one.
func upTo(s, from, to string, k kind) (kind, int) {
	at := strings.Index(s[len(from):], to)
	if at < 0 {
		return unended, len(s)
	}
	return k, len(from) + at + len(to)
}

// run is how many bytes a text begins with that may be there.
func run(s string, may func(c byte) bool) int {
	for i := range len(s) {
		if !may(s[i]) {
			return i
		}
	}
	return len(s)
}

// value is the bytes that a string says.
func (t token) value() string {
	inner := t.text[1 : len(t.text)-1]
	if t.text[0] == '"' {
		return strings.NewReplacer(`\"`, `"`, `\\`, `\`).Replace(inner)
	}
	return inner
}

func (t token) isWord(s string) bool { return t.kind == word && t.text == s }

func digit(c byte) bool { return '0' <= c && c <= '9' }

func letter(c byte) bool { return 'a' <= c && c <= 'z' || 'A' <= c && c <= 'Z' }

func nameByte(c byte) bool { return letter(c) || digit(c) || c == '_' || c >= utf8.RuneSelf }
