package note

import (
	"slices"
	"strings"

	"mews/api"
	"mews/ark"
)

const (
	// lineMark begins each signature's line. No text has these bytes, so none of
	// its lines can pass for a signature's.
	lineMark = "\xe2\x80\x94 "
	idSize   = 4
)

// signer is what a line says of the key that it is of.
type signer struct {
	name string
	id   uint32
}

// signature is what a line says.
type signature struct {
	signer
	sig []byte
}

// is tells whether a key is the signer. An ID takes two sums, so it is asked last.
func (s signer) is(v verifier) bool { return v.Name() == s.name && v.ID() == s.id }

// line is the line of a signature.
func (s signature) line() string {
	return lineMark + s.name + " " + ark.Base64(slices.Concat(idBytes(s.id), s.sig)) + "\n"
}

// readLine is the signature whose line, without its newline, it is.
func readLine(line string) (signature, bool) {
	rest, marked := strings.CutPrefix(line, lineMark)
	name, code, parted := strings.Cut(rest, " ")
	if !marked || !parted || !isKeyName(name) {
		return signature{}, false
	}
	b, e := ark.FromBase64(code)
	if e != api.OK || len(b) <= idSize {
		return signature{}, false
	}
	return signature{signer{name, number(b)}, b[idSize:]}, true
}

// readLines is the signatures whose lines they are, one or more.
func readLines(lines string) ([]signature, bool) {
	body, ended := strings.CutSuffix(lines, "\n")
	if !ended {
		return nil, false
	}
	var all []signature
	for _, line := range strings.Split(body, "\n") {
		s, ok := readLine(line)
		if !ok {
			return nil, false
		}
		all = append(all, s)
	}
	return all, true
}

// idBytes is an ID's bytes, the high one first.
func idBytes(id uint32) []byte {
	return []byte{byte(id >> 24), byte(id >> 16), byte(id >> 8), byte(id)}
}

// number is the ID whose bytes b begins with.
func number(b []byte) uint32 {
	return uint32(b[0])<<24 | uint32(b[1])<<16 | uint32(b[2])<<8 | uint32(b[3])
}
