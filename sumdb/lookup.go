package sumdb

import (
	"bytes"
	"strconv"
	"strings"

	"mews/api"
	"mews/sumfile"
)

// lookup is what a lookup's bytes say.
type lookup struct {
	id     int
	record []byte
	lines  []sumfile.Line
	note   string
}

// FormatLookup is a lookup's bytes.
func FormatLookup(id int, record []byte, note string) []byte {
	return []byte(strconv.Itoa(id) + "\n" + string(record) + "\n" + note)
}

// ParseLookup is what a lookup's bytes say.
func ParseLookup(b []byte) (int, []byte, string, api.Errno) {
	l, e := readLookup(b)
	return l.id, l.record, l.note, e
}

// readLookup is what a lookup's bytes say, the record's lines, too.
func readLookup(b []byte) (lookup, api.Errno) {
	number, rest, _ := strings.Cut(string(b), "\n")
	record, note, _ := strings.Cut(rest, "\n\n")
	l := lookup{record: []byte(record + "\n"), note: note}
	id, err := strconv.Atoi(number)
	lines, e := ParseRecord(l.record)
	if err != nil || id < 0 || id >= api.MaxRecords || e != api.OK || note == "" {
		return lookup{}, api.ErrReply
	}
	l.id, l.lines = id, lines
	// A number is read that is written otherwise, too: but there is one form alone.
	if !bytes.Equal(FormatLookup(l.id, l.record, l.note), b) {
		return lookup{}, api.ErrReply
	}
	return l, api.OK
}
