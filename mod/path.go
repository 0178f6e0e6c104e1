package mod

import (
	"strings"

	"mews/api"
)

// minMajor is the least major that stands in a path.
const minMajor = 2

// CheckPath tells whether a text is a module's path.
func CheckPath(p string) api.Errno {
	if len(p) > api.MaxPath {
		return api.ErrLong
	}
	first, _, _ := strings.Cut(p, "/")
	if !validElements(p, pathByte) || !validHost(first) {
		return api.ErrPath
	}
	if _, major := SplitMajor(p); major == 0 && looksMajor(p) {
		return api.ErrMajor
	}
	return api.OK
}

// CheckImport tells whether a text is an import's path.
func CheckImport(p string) api.Errno {
	if len(p) > api.MaxPath {
		return api.ErrLong
	}
	if !validElements(p, importByte) {
		return api.ErrPath
	}
	return api.OK
}

// SplitMajor splits a path's major off.
func SplitMajor(p string) (string, int) {
	if !looksMajor(p) {
		return p, 0
	}
	slash := strings.LastIndexByte(p, '/')
	major, ok := number(p[slash+len("/v"):])
	if !ok || major < minMajor {
		return p, 0
	}
	return p[:slash], major
}

// looksMajor tells whether the last one of two elements or more is `v` and
// digits, whether or not they are a major that may stand there.
func looksMajor(p string) bool {
	slash := strings.LastIndexByte(p, '/')
	behind, hasV := strings.CutPrefix(p[slash+1:], "v")
	return slash >= 0 && hasV && digits(behind)
}

// validElements tells whether a text is elements of bytes that may be there,
// with `/` between.
func validElements(p string, may func(c byte) bool) bool {
	for _, element := range strings.Split(p, "/") {
		if !validElement(element, may) {
			return false
		}
	}
	return true
}

func validElement(element string, may func(c byte) bool) bool {
	return element != "" && every(element, may) &&
		!strings.HasPrefix(element, ".") && !strings.HasSuffix(element, ".")
}

// validHost tells whether an element may be a module path's first one.
func validHost(element string) bool {
	return strings.Contains(element, ".") && !strings.HasPrefix(element, "-") && every(element, hostByte)
}

func hostByte(c byte) bool { return lower(c) || digit(c) || c == '-' || c == '.' }

func pathByte(c byte) bool { return hostByte(c) || upper(c) || c == '_' || c == '~' }

func importByte(c byte) bool { return pathByte(c) || c == '+' }
