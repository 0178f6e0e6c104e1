package fs

import (
	"strings"

	"mews/api"
)

// Valid tells whether a text is a name.
func Valid(name string) bool {
	if len(name) > api.MaxName {
		return false
	}
	for _, element := range strings.Split(name, "/") {
		if !validElement(element) {
			return false
		}
	}
	return true
}

// validElement tells whether a text may stand between the slashes of a name.
func validElement(element string) bool {
	if element == "" || element == "." || element == ".." {
		return false
	}
	for i := range len(element) {
		if c := element[i]; c < 0x21 || c > 0x7e || c == '\\' {
			return false
		}
	}
	return true
}

// Dir is a name's directory.
func Dir(name string) string {
	slash := strings.LastIndexByte(name, '/')
	if slash < 0 {
		return ""
	}
	return name[:slash]
}
