package mod

import (
	"strconv"
	"strings"

	"mews/api"
)

// The bytes of a pseudo-version's time, and of its revision.
const (
	timeLength     = 14
	revisionLength = 12
)

// Pseudo makes a pseudo-version.
func Pseudo(major int, base, time, rev string) (string, api.Errno) {
	if major < 0 || major > maxNumber {
		return "", api.ErrRange
	}
	if !validTime(time) || !validRevision(rev) {
		return "", api.ErrForm
	}
	front, ok := pseudoFront(major, base)
	if !ok {
		return "", api.ErrVersion
	}
	v := front + time + "-" + rev
	if !ValidVersion(v) {
		return "", api.ErrVersion
	}
	return v, api.OK
}

// pseudoFront is what stands ahead of the time.
func pseudoFront(major int, base string) (string, bool) {
	if base == "" {
		return release(major, 0, 0) + "-", true
	}
	baseMajor, minor, patch, pre, ok := Parts(base)
	if !ok || baseMajor != major {
		return "", false
	}
	if pre != "" {
		return base + ".0.", true
	}
	return release(major, minor, patch+1) + "-0.", true
}

// SplitPseudo tells what a pseudo-version was made of.
func SplitPseudo(v string) (string, string, string, bool) {
	_, _, _, pre, _ := Parts(v)
	stamp := pre[strings.LastIndexByte(pre, '.')+1:]
	time, rev, _ := strings.Cut(stamp, "-")
	if !validTime(time) || !validRevision(rev) {
		return "", "", "", false
	}
	base, ok := pseudoBase(v, stamp)
	if !ok {
		return "", "", "", false
	}
	return base, time, rev, true
}

// pseudoBase is the base of a version whose pre's last identifier is a time and
// a revision. How many identifiers stand ahead of it tells which kind it is, so
// that no version can be read in two ways.
func pseudoBase(v, stamp string) (string, bool) {
	major, minor, patch, pre, _ := Parts(v)
	switch ahead := strings.TrimSuffix(pre, stamp); {
	case ahead == "":
		return "", minor == 0 && patch == 0
	case ahead == "0.":
		if patch == 0 {
			return "", false
		}
		return release(major, minor, patch-1), true
	}
	return strings.CutSuffix(v, ".0."+stamp)
}

// release is a version without a pre.
func release(major, minor, patch int) string {
	return "v" + strconv.Itoa(major) + "." + strconv.Itoa(minor) + "." + strconv.Itoa(patch)
}

func validTime(time string) bool {
	if len(time) != timeLength || !digits(time) {
		return false
	}
	month, day := time[4:6], time[6:8]
	hour, minute, second := time[8:10], time[10:12], time[12:14]
	return "01" <= month && month <= "12" && "01" <= day && day <= "31" &&
		hour <= "23" && minute <= "59" && second <= "59"
}

func validRevision(rev string) bool {
	return len(rev) == revisionLength && every(rev, hexByte)
}

func hexByte(c byte) bool { return digit(c) || 'a' <= c && c <= 'f' }
