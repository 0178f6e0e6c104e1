package sumfile

import (
	"cmp"
	"slices"
	"strings"

	"mews/api"
	"mews/mod"
)

// manifestEnd stands behind the version of a Manifest.
const manifestEnd = "/go.mod"

// entry is what a lock has one sum of.
type entry struct {
	mod  api.Mod
	kind int
}

func entryOf(l Line) entry { return entry{l.Mod, l.Kind} }

// Parse is the lines of a lock.
func Parse(text string) ([]Line, int, api.Errno) {
	check := lineCheck()
	list, number, e := readLines(text, func(ahead []Line, line string) ([]Line, api.Errno) {
		l, ok := readLine(line)
		if !ok {
			return nil, api.ErrSyntax
		}
		return append(ahead, l), check(l)
	})
	return sorted(list, compareLines), number, e
}

// Format is a lock's text.
func Format(l []Line) (string, api.Errno) {
	check := lineCheck()
	for _, line := range l {
		if e := check(line); e != api.OK {
			return "", e
		}
	}
	return writeLines(sorted(l, compareLines), writeLine)
}

func readLine(line string) (Line, bool) {
	all, ok := pieces(line, 3)
	if !ok {
		return Line{}, false
	}
	version, manifest := strings.CutSuffix(all[1], manifestEnd)
	l := Line{Mod: api.Mod{Path: all[0], Version: version}, Kind: Tree, Sum: all[2]}
	if manifest {
		l.Kind = Manifest
	}
	return l, true
}

func writeLine(l Line) string {
	version := l.Mod.Version
	if l.Kind == Manifest {
		version += manifestEnd
	}
	return l.Mod.Path + " " + version + " " + l.Sum + "\n"
}

// lineCheck looks at a lock's lines, as they come.
func lineCheck() func(l Line) api.Errno {
	ahead := set[entry]{}
	return func(l Line) api.Errno {
		if l.Kind != Tree && l.Kind != Manifest {
			return api.ErrKind
		}
		if e := mod.Check(l.Mod); e != api.OK {
			return e
		}
		if !ValidSum(l.Sum) {
			return api.ErrSum
		}
		if ahead.has(entryOf(l)) {
			return api.ErrTwice
		}
		ahead.add(entryOf(l))
		return api.OK
	}
}

// compareLines is the order of lines. Sums don't count: a lock has one of each
// module and kind.
func compareLines(a, b Line) int {
	return cmp.Or(compareMods(a.Mod, b.Mod), cmp.Compare(a.Kind, b.Kind))
}

// Merge is the lines of both.
func Merge(a, b []Line) ([]Line, api.Errno) {
	both := sorted(slices.Concat(a, b), compareLines)
	for i := 1; i < len(both); i++ {
		if entryOf(both[i-1]) == entryOf(both[i]) && both[i-1].Sum != both[i].Sum {
			return nil, api.ErrMismatch
		}
	}
	return slices.Compact(both), api.OK
}

// Find is a line's sum.
func Find(l []Line, m api.Mod, kind int) (string, bool) {
	for _, line := range l {
		if entryOf(line) == (entry{m, kind}) {
			return line.Sum, true
		}
	}
	return "", false
}

// Keep is the lines of some modules.
func Keep(l []Line, mods []api.Mod) []Line {
	wanted := set[api.Mod]{}
	for _, m := range mods {
		wanted.add(m)
	}
	var kept []Line
	for _, line := range l {
		if wanted.has(line.Mod) {
			kept = append(kept, line)
		}
	}
	return kept
}
