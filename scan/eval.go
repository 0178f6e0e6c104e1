package scan

import (
	"iter"
	"slices"
	"strings"

	"mews/api"
)

// condition tells whether an expression is true, where there are these tags.
type condition func(tags []string) bool

// Eval tells whether a constraint is true.
func Eval(expr string, tags []string) (bool, api.Errno) {
	if len(expr) > api.MaxLine {
		return false, api.ErrLong
	}
	p := phrase{slices.Collect(signs(expr))}
	holds, ok := p.either()
	if !ok || len(p.left) > 0 {
		return false, api.ErrSyntax
	}
	return holds(tags), api.OK
}

// signs yields the tags and the operators of an expression. A byte that is in
// none of them is one of its own, which fits nowhere.
func signs(expr string) iter.Seq[string] {
	return func(yield func(string) bool) {
		for left := strings.TrimLeft(expr, " \t"); left != ""; {
			size := signSize(left)
			if !yield(left[:size]) {
				return
			}
			left = strings.TrimLeft(left[size:], " \t")
		}
	}
}

// signSize is how many bytes the sign has that a text begins with.
func signSize(s string) int {
	if strings.HasPrefix(s, "&&") || strings.HasPrefix(s, "||") {
		return 2
	}
	return max(1, run(s, tagByte))
}

func tagByte(c byte) bool { return letter(c) || digit(c) || c == '_' || c == '.' }

// phrase is an expression that is being read.
type phrase struct{ left []string }

// skip passes over the next sign, if it is that one.
func (p *phrase) skip(sign string) bool {
	if len(p.left) == 0 || p.left[0] != sign {
		return false
	}
	p.left = p.left[1:]
	return true
}

func (p *phrase) either() (condition, bool) { return p.chain("||", p.both, or) }

func (p *phrase) both() (condition, bool) { return p.chain("&&", p.single, and) }

// chain reads parts with a sign between, and joins them.
func (p *phrase) chain(sign string, part func() (condition, bool), join func(a, b condition) condition) (condition, bool) {
	joined, ok := part()
	for ok && p.skip(sign) {
		var more condition
		more, ok = part()
		joined = join(joined, more)
	}
	return joined, ok
}

// single reads what `!` binds.
func (p *phrase) single() (condition, bool) {
	switch {
	case p.skip("!"):
		inner, ok := p.single()
		return not(inner), ok
	case p.skip("("):
		inner, ok := p.either()
		return inner, ok && p.skip(")")
	}
	return p.tag()
}

func (p *phrase) tag() (condition, bool) {
	if len(p.left) == 0 || !tagByte(p.left[0][0]) {
		return nil, false
	}
	tag := p.left[0]
	p.left = p.left[1:]
	return func(tags []string) bool { return slices.Contains(tags, tag) }, true
}

func or(a, b condition) condition {
	return func(tags []string) bool { return a(tags) || b(tags) }
}

func and(a, b condition) condition {
	return func(tags []string) bool { return a(tags) && b(tags) }
}

func not(a condition) condition {
	return func(tags []string) bool { return !a(tags) }
}
