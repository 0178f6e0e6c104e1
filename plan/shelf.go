package plan

import (
	"strings"

	"mews/api"
	"mews/scan"
)

// shelf is a module's packages: what each of its directories imports.
type shelf map[string][]string

// newShelf is the packages of files. Each directory is handed its own files
// alone, so that many directories don't each go through all of them.
func newShelf(files []api.File, tags []string) (shelf, api.Errno) {
	dirs, e := scan.Dirs(files, tags)
	if e != api.OK {
		return nil, e
	}
	within := byDir(files)
	s := shelf{}
	for _, dir := range dirs {
		if s[dir], e = scan.Imports(within[dir], dir, tags); e != api.OK {
			return nil, e
		}
	}
	return s, api.OK
}

// byDir is files by their directories.
func byDir(files []api.File) map[string][]api.File {
	within := map[string][]api.File{}
	for _, f := range files {
		dir, _ := split(f.Name)
		within[dir] = append(within[dir], f)
	}
	return within
}

// split is a name's directory, and what stands behind it.
func split(name string) (string, string) {
	slash := strings.LastIndexByte(name, '/')
	if slash < 0 {
		return "", name
	}
	return name[:slash], name[slash+1:]
}

// importPath is the path by which a module's directory is imported.
func importPath(module, dir string) string {
	if dir == "" {
		return module
	}
	return module + "/" + dir
}

// dirOf is the directory of a module that an import's path says, if that is the
// module's.
func dirOf(module, path string) (string, bool) {
	if path == module {
		return "", true
	}
	dir, inside := strings.CutPrefix(path, module+"/")
	return dir, inside && dir != ""
}
