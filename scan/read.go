package scan

import (
	"slices"
	"strings"

	"mews/api"
	"mews/mod"
)

// constraintHead is how a comment begins that is a constraint.
const constraintHead = "//go:build "

// place is where a source is being read: what may come next hangs on it alone.
type place int

const (
	nowhere    place = iota // behind a token that cannot be
	ahead                   // of the package clause
	clause                  // behind `package`
	complete                // behind a clause, or a declaration, but for its end
	outside                 // behind an end
	imported                // behind `import`
	named                   // behind the name of a spec
	group                   // where a spec of a group may begin
	groupNamed              // behind the name of a spec of a group
	groupSpec               // behind a spec of a group
	rest                    // behind all that is looked at
)

// front is what has been read of a source.
type front struct {
	at     place
	source Source
}

// Read reads a source's front.
func Read(src string) (Source, int, api.Errno) {
	if len(src) > api.MaxText {
		return Source{}, 0, api.ErrLong
	}
	f := front{at: ahead}
	for t := range tokens(src) {
		if e := f.take(t); e != api.OK {
			return Source{}, t.line, e
		}
		if f.at == rest {
			break
		}
	}
	f.source.Imports = rising(f.source.Imports)
	return f.source, 0, api.OK
}

// take goes on behind a token, or answers what is at fault with it.
func (f *front) take(t token) api.Errno {
	if t.kind == remark {
		return f.takeRemark(t)
	}
	to := next(f.at, t)
	switch {
	case to == nowhere:
		return api.ErrSyntax
	case f.at == clause:
		f.source.Package = t.text
	case t.kind == quote && to != rest:
		path := t.value()
		if mod.CheckImport(path) != api.OK {
			return api.ErrPath
		}
		f.source.Imports = append(f.source.Imports, path)
	}
	f.at = to
	return api.OK
}

// takeRemark takes the constraint, if a comment is one. None that is taken is
// empty: Eval refuses that.
func (f *front) takeRemark(t token) api.Errno {
	expr, ok := strings.CutPrefix(t.text, constraintHead)
	if !ok || !t.begins || f.at != ahead {
		return api.OK
	}
	if f.source.Constraint != "" {
		return api.ErrTwice
	}
	expr = strings.Trim(expr, " \t\r")
	if _, e := Eval(expr, nil); e != api.OK {
		return api.ErrSyntax
	}
	f.source.Constraint = expr
	return api.OK
}

// next is where a token leads.
func next(at place, t token) place {
	switch {
	case at == ahead && t.kind == ending:
		return ahead
	case at == ahead && t.isWord("package"):
		return clause
	case at == clause && t.kind == word:
		return complete
	case at == complete && (t.kind == ending || t.kind == finish):
		return outside
	case at == outside && t.kind == ending:
		return outside
	case at == outside && t.isWord("import"):
		return imported
	case at == outside && t.kind != unended:
		return rest
	case at == imported && t.kind == opening:
		return group
	case at == imported && (t.kind == word || t.kind == dot):
		return named
	case (at == imported || at == named) && t.kind == quote:
		return complete
	}
	return nextInGroup(at, t)
}

// nextInGroup is where a token leads within a group of specs. The end of the
// source leads nowhere: it is an end, but no `)` can come behind it.
func nextInGroup(at place, t token) place {
	switch {
	case at == group && (t.kind == word || t.kind == dot):
		return groupNamed
	case (at == group || at == groupNamed) && t.kind == quote:
		return groupSpec
	case (at == group || at == groupSpec) && t.kind == ending:
		return group
	case (at == group || at == groupSpec) && t.kind == closing:
		return complete
	}
	return nowhere
}

// rising is the list, each once, in memory of its own.
func rising(list []string) []string {
	sorted := slices.Clone(list)
	slices.Sort(sorted)
	return slices.Compact(sorted)
}
