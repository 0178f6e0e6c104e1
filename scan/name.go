package scan

import (
	"slices"
	"strings"
)

// Name tells whether a file of that name counts.
func Name(name string, tags []string) bool {
	stem, ok := strings.CutSuffix(name, ".go")
	if !ok || strings.HasPrefix(name, "_") || strings.HasPrefix(name, ".") || strings.HasSuffix(stem, "_test") {
		return false
	}
	for _, tag := range wanted(strings.Split(stem, "_")[1:]) {
		if !slices.Contains(tags, tag) {
			return false
		}
	}
	return true
}

// wanted are those of a name's pieces that must be tags.
func wanted(pieces []string) []string {
	last := len(pieces) - 1
	switch {
	case last < 0:
		return nil
	case system(pieces[last]):
		return pieces[last:]
	case !architecture(pieces[last]):
		return nil
	case last > 0 && system(pieces[last-1]):
		return pieces[last-1:]
	}
	return pieces[last:]
}

func system(piece string) bool {
	return piece == "linux" || piece == "darwin" || piece == "windows"
}

func architecture(piece string) bool { return piece == "amd64" || piece == "arm64" }
