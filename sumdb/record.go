package sumdb

import (
	"bytes"

	"mews/api"
	"mews/sumfile"
)

// Record is the text of a module's lines.
func Record(l []sumfile.Line) ([]byte, api.Errno) {
	text, e := sumfile.Format(l)
	if e != api.OK {
		return nil, e
	}
	// Format takes no other kinds, and none twice: two lines of one module are
	// its Tree and its Manifest.
	if len(l) != 2 || l[0].Mod != l[1].Mod {
		return nil, api.ErrForm
	}
	return []byte(text), api.OK
}

// ParseRecord is the lines of a record.
func ParseRecord(b []byte) ([]sumfile.Line, api.Errno) {
	// Of what Parse refuses there are no lines, and no lines are no record.
	lines, _, _ := sumfile.Parse(string(b))
	// There is one form alone, so what is written anew tells whether b has it.
	if again, e := Record(lines); e != api.OK || !bytes.Equal(again, b) {
		return nil, api.ErrForm
	}
	return lines, api.OK
}
