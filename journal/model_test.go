package journal_test

import (
	"encoding/binary"
	"hash/crc32"
	"maps"
	"regexp"
	"slices"
	"strings"

	"mews/api"
	"mews/journal"
)

// The model is a second reading of the chapter, by other means.

var nameForm = regexp.MustCompile(`\A[!-.0-\[\]-~]+(/[!-.0-\[\]-~]+)*\z`)

// modelValid tells whether a text is a name.
func modelValid(name string) bool {
	elements := strings.Split(name, "/")
	return len(name) <= 240 && nameForm.MatchString(name) && !slices.Contains(elements, ".") && !slices.Contains(elements, "..")
}

// four and two are numbers in bytes, the low one first.
func four(n uint32) string { return string(binary.LittleEndian.AppendUint32(nil, n)) }
func two(n uint16) string  { return string(binary.LittleEndian.AppendUint16(nil, n)) }

// framed is a record that says what body is, whatever that is.
func framed(body string) string {
	return four(uint32(len(body))) + four(crc32.ChecksumIEEE([]byte(body))) + body
}

// modelRecord is a record of a kind, with a name and data.
func modelRecord(kind byte, name, data string) string {
	return framed(string([]byte{kind}) + two(uint16(len(name))) + name + data)
}

// modelCommit is a commit of so many changes.
func modelCommit(count uint32) string { return modelRecord(3, "", four(count)) }

// modelBytes is the journal's bytes, whatever the changes are.
func modelBytes(l ...journal.Change) string {
	s := ""
	for _, c := range l {
		if c.Drop {
			s += modelRecord(2, c.Name, "")
		} else {
			s += modelRecord(1, c.Name, string(c.Data))
		}
	}
	return s + modelCommit(uint32(len(l)))
}

func modelEncode(l []journal.Change) (string, api.Errno) {
	if len(l) > 2000 {
		return "", api.ErrMany
	}
	for i, c := range l {
		if !modelValid(c.Name) {
			return "", api.ErrName
		}
		if slices.ContainsFunc(l[:i], func(other journal.Change) bool { return other.Name == c.Name }) {
			return "", api.ErrTwice
		}
	}
	return modelBytes(l...), api.OK
}

// modelDecode takes the bytes for records without looking closely, and then asks
// whether the changes would be written so.
func modelDecode(s string) ([]journal.Change, bool) {
	var l []journal.Change
	rest := s
	for len(rest) >= 11 && rest[8] != 3 {
		length, name := uint64(binary.LittleEndian.Uint32([]byte(rest))), uint64(binary.LittleEndian.Uint16([]byte(rest[9:])))
		if length < name+3 || uint64(len(rest)) < 8+length {
			return nil, false
		}
		l = append(l, journal.Change{Name: rest[11 : 11+name], Data: []byte(rest[11+name : 8+length]), Drop: rest[8] == 2})
		rest = rest[8+length:]
	}
	b, e := modelEncode(l)
	if e != api.OK || !strings.HasPrefix(s, b) {
		return nil, false
	}
	return l, true
}

// modelApply is the files behind changes, as one text.
func modelApply(files []api.File, l []journal.Change) string {
	all := map[string]string{}
	for _, f := range files {
		all[f.Name] = string(f.Data)
	}
	for _, c := range l {
		if c.Drop {
			delete(all, c.Name)
		} else {
			all[c.Name] = string(c.Data)
		}
	}
	delete(all, file)
	var left []api.File
	for _, name := range slices.Sorted(maps.Keys(all)) {
		left = append(left, api.File{Name: name, Data: []byte(all[name])})
	}
	return told(left)
}

// dropless is changes without the data of drops.
func dropless(l []journal.Change) []journal.Change {
	l = slices.Clone(l)
	for i := range l {
		if l[i].Drop {
			l[i].Data = nil
		}
	}
	return l
}
