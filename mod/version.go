package mod

import (
	"cmp"
	"slices"
	"sort"
	"strconv"
	"strings"

	"mews/api"
)

// The bounds of a number.
const (
	maxDigits = 9
	maxNumber = 999999999
)

// version is what a version's text says.
type version struct {
	numbers [3]int // major, minor, patch
	pre     string // empty, if it has none
}

// ValidVersion tells whether a text is a version.
func ValidVersion(v string) bool {
	_, ok := parse(v)
	return ok
}

// Parts are a version's numbers, and its pre.
func Parts(v string) (int, int, int, string, bool) {
	read, ok := parse(v)
	return read.numbers[0], read.numbers[1], read.numbers[2], read.pre, ok
}

// parse reads a version. No number has a `-`, so that the first one of the text
// is the one ahead of the pre.
func parse(v string) (version, bool) {
	if len(v) > api.MaxVersion || !strings.HasPrefix(v, "v") {
		return version{}, false
	}
	release, pre, hasPre := strings.Cut(v[1:], "-")
	numbers, ok := parseNumbers(release)
	if !ok || hasPre && !validPre(pre) {
		return version{}, false
	}
	return version{numbers, pre}, true
}

// parseNumbers reads three numbers with `.` between.
func parseNumbers(release string) ([3]int, bool) {
	var numbers [3]int
	fields := strings.Split(release, ".")
	if len(fields) != len(numbers) {
		return [3]int{}, false
	}
	for i, field := range fields {
		n, ok := number(field)
		if !ok {
			return [3]int{}, false
		}
		numbers[i] = n
	}
	return numbers, true
}

// number reads a number of a version, or of a path's last element.
func number(s string) (int, bool) {
	if len(s) > maxDigits || !digits(s) || zeroAhead(s) {
		return 0, false
	}
	n, err := strconv.Atoi(s)
	return n, err == nil
}

// zeroAhead tells whether digits are not how their number is written.
func zeroAhead(s string) bool { return len(s) > 1 && s[0] == '0' }

func validPre(pre string) bool {
	for _, identifier := range strings.Split(pre, ".") {
		if !validIdentifier(identifier) {
			return false
		}
	}
	return true
}

func validIdentifier(s string) bool {
	if digits(s) {
		return !zeroAhead(s)
	}
	return s != "" && every(s, identifierByte)
}

func identifierByte(c byte) bool { return digit(c) || letter(c) || c == '-' }

// Compare tells which is greater.
func Compare(a, b string) int {
	readA, okA := parse(a)
	readB, okB := parse(b)
	switch {
	case okA && okB:
		return compareVersions(readA, readB)
	case okA:
		return 1
	case okB:
		return -1
	}
	return strings.Compare(a, b)
}

func compareVersions(a, b version) int {
	return cmp.Or(
		slices.Compare(a.numbers[:], b.numbers[:]),
		comparePres(a.pre, b.pre),
	)
}

func comparePres(a, b string) int {
	switch {
	case a == b:
		return 0
	case a == "":
		return 1
	case b == "":
		return -1
	}
	return slices.CompareFunc(strings.Split(a, "."), strings.Split(b, "."), compareIdentifiers)
}

// compareIdentifiers takes two of digits alone by their length ahead of their
// bytes: without a zero ahead that is their number's order, however great it is.
func compareIdentifiers(a, b string) int {
	digitsA, digitsB := digits(a), digits(b)
	switch {
	case digitsA && digitsB:
		return cmp.Or(cmp.Compare(len(a), len(b)), strings.Compare(a, b))
	case digitsA:
		return -1
	case digitsB:
		return 1
	}
	return strings.Compare(a, b)
}

// Max is the greater one.
func Max(a, b string) string {
	if Compare(a, b) < 0 {
		return b
	}
	return a
}

// Sort is the list, rising.
func Sort(l []string) []string {
	rising := slices.Clone(l)
	sort.SliceStable(rising, func(i, k int) bool { return Compare(rising[i], rising[k]) < 0 })
	return rising
}
