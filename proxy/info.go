package proxy

import (
	"strings"

	"mews/api"
	"mews/mod"
)

// What stands around the version and the time of an info.
const (
	infoHead   = `{"Version":"`
	infoMiddle = `","Time":"`
	infoEnd    = `"}`
)

// timeForm is a time, a 0 for each digit.
const timeForm = "0000-00-00T00:00:00Z"

// Info is what a server says of a version.
type Info struct{ Version, Time string }

// ParseInfo is the info of some bytes.
func ParseInfo(b []byte) (Info, api.Errno) {
	behind, begins := strings.CutPrefix(string(b), infoHead)
	said, ends := strings.CutSuffix(behind, infoEnd)
	version, time, both := strings.Cut(said, infoMiddle)
	if !begins || !ends || !both || !mod.ValidVersion(version) || !validTime(time) {
		return Info{}, api.ErrReply
	}
	return Info{version, time}, api.OK
}

// FormatInfo is an info's bytes.
func FormatInfo(i Info) []byte {
	return []byte(infoHead + i.Version + infoMiddle + i.Time + infoEnd)
}

// validTime tells whether a text is a time.
func validTime(s string) bool {
	if len(s) != len(timeForm) {
		return false
	}
	for i := range len(s) {
		if !fitsForm(s[i], timeForm[i]) {
			return false
		}
	}
	return between(s[5:7], "01", "12") && between(s[8:10], "01", "31") &&
		between(s[11:13], "00", "23") && between(s[14:16], "00", "59") && between(s[17:19], "00", "59")
}

// fitsForm tells whether a byte may stand where a form has its own.
func fitsForm(c, form byte) bool {
	if form == '0' {
		return '0' <= c && c <= '9'
	}
	return c == form
}

// between compares numbers as texts: all of them have two digits.
func between(s, least, most string) bool { return least <= s && s <= most }
