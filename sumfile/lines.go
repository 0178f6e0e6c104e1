package sumfile

import (
	"slices"
	"strings"

	"mews/api"
	"mews/mod"
)

// readLines is what the lines of a text say: read is handed what those ahead
// have said, and a line, and answers what they say together. Beside an error
// stands the number of the line that is at fault.
func readLines[T any](text string, read func(ahead []T, line string) ([]T, api.Errno)) ([]T, int, api.Errno) {
	if len(text) > api.MaxText {
		return nil, 0, api.ErrLong
	}
	var list []T
	for number := 1; text != ""; number++ {
		line, rest, ended := strings.Cut(text, "\n")
		longer, e := read(list, line)
		if e == api.OK && !ended {
			e = api.ErrSyntax
		}
		if e != api.OK {
			return nil, number, e
		}
		list, text = longer, rest
	}
	return list, 0, api.OK
}

// writeLines is the text of a list.
func writeLines[T any](list []T, write func(element T) string) (string, api.Errno) {
	var text strings.Builder
	for _, element := range list {
		text.WriteString(write(element))
	}
	if text.Len() > api.MaxText {
		return "", api.ErrLong
	}
	return text.String(), api.OK
}

// pieces are those of a line, with one blank between each two, and whether they
// are just so many, and none of them is empty.
func pieces(line string, count int) ([]string, bool) {
	all := strings.Split(line, " ")
	return all, len(all) == count && !slices.Contains(all, "")
}

// sorted is the list, rising, in memory of its own.
func sorted[T any](list []T, compare func(a, b T) int) []T {
	rising := slices.Clone(list)
	slices.SortFunc(rising, compare)
	return rising
}

// compareMods is mod.Less as a number: no two unlike modules are on a par.
func compareMods(a, b api.Mod) int {
	switch {
	case a == b:
		return 0
	case mod.Less(a, b):
		return -1
	}
	return 1
}

// set is things that are there. It is asked and never gone through, so that no
// answer hangs on its order.
type set[K comparable] map[K]struct{}

func (s set[K]) has(key K) bool {
	_, is := s[key]
	return is
}

func (s set[K]) add(key K) { s[key] = struct{}{} }
