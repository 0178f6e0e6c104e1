package ark

import (
	"strings"

	"mews/api"
)

const (
	maxName   = 200 // bytes of a name in an archive
	forbidden = `\:*?"<>|`
)

// ValidName tells whether a text is a name in an archive.
func ValidName(name string) bool {
	if len(name) > maxName {
		return false
	}
	for _, element := range strings.Split(name, "/") {
		if !validElement(element) {
			return false
		}
	}
	return true
}

// validElement tells whether a text may stand between the slashes of a name.
func validElement(element string) bool {
	if element == "" || element == "." || element == ".." {
		return false
	}
	for i := range len(element) {
		if c := element[i]; c < 0x20 || c > 0x7e || strings.IndexByte(forbidden, c) >= 0 {
			return false
		}
	}
	return element[0] != ' ' && element[len(element)-1] != ' '
}

// nameCheck looks at names, as they come.
func nameCheck() func(name string) api.Errno {
	ahead := map[string]struct{}{}
	return func(name string) api.Errno {
		if !ValidName(name) {
			return api.ErrName
		}
		folded := strings.ToLower(name)
		if _, is := ahead[folded]; is {
			return api.ErrTwice
		}
		ahead[folded] = struct{}{}
		return api.OK
	}
}

// checkNames is the first error of the files' names.
func checkNames(files []api.File) api.Errno {
	check := nameCheck()
	for _, f := range files {
		if e := check(f.Name); e != api.OK {
			return e
		}
	}
	return api.OK
}

// Prefix is what a module's files' names begin with.
func Prefix(m api.Mod) string { return m.Path + "@" + m.Version + "/" }

// Strip takes the prefix off.
func Strip(files []api.File, m api.Mod) ([]api.File, api.Errno) {
	prefix := Prefix(m)
	for _, f := range files {
		if rest, is := strings.CutPrefix(f.Name, prefix); !is || rest == "" {
			return nil, api.ErrName
		}
	}
	return renamed(files, func(name string) string { return name[len(prefix):] }), api.OK
}

// Add lays it ahead.
func Add(files []api.File, m api.Mod) []api.File {
	prefix := Prefix(m)
	return renamed(files, func(name string) string { return prefix + name })
}
