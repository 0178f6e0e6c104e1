package scan

import (
	"slices"
	"strings"

	"mews/api"
)

// counted is a file that counts.
type counted struct {
	dir    string
	source Source
}

// Dirs are the directories with files that count.
func Dirs(files []api.File, tags []string) ([]string, api.Errno) {
	found, e := count(files, tags, func(string) bool { return true })
	if e != api.OK {
		return nil, e
	}
	var dirs []string
	for _, c := range found {
		dirs = append(dirs, c.dir)
	}
	return rising(dirs), api.OK
}

// Imports are the imports of a directory's files.
func Imports(files []api.File, dir string, tags []string) ([]string, api.Errno) {
	found, e := count(files, tags, func(d string) bool { return d == dir })
	if e != api.OK {
		return nil, e
	}
	if len(found) == 0 {
		return nil, api.ErrNone
	}
	var imports []string
	for _, c := range found {
		imports = append(imports, c.source.Imports...)
	}
	return rising(imports), api.OK
}

// count is the files that count of some directories, by rising names, so that
// the first error is that of the least name.
func count(files []api.File, tags []string, within func(dir string) bool) ([]counted, api.Errno) {
	sorted := slices.Clone(files)
	slices.SortStableFunc(sorted, func(a, b api.File) int { return strings.Compare(a.Name, b.Name) })
	var found []counted
	for _, f := range sorted {
		dir, base := split(f.Name)
		if !within(dir) || !Name(base, tags) {
			continue
		}
		source, _, e := Read(string(f.Data))
		if e != api.OK {
			return nil, e
		}
		if allowed(source, tags) {
			found = append(found, counted{dir, source})
		}
	}
	return found, api.OK
}

// allowed tells whether a source's constraint, if it has one, is true.
func allowed(s Source, tags []string) bool {
	if s.Constraint == "" {
		return true
	}
	holds, _ := Eval(s.Constraint, tags)
	return holds
}

// split is a name's directory, and what stands behind it.
func split(name string) (string, string) {
	slash := strings.LastIndexByte(name, '/')
	if slash < 0 {
		return "", name
	}
	return name[:slash], name[slash+1:]
}
