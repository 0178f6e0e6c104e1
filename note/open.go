package note

import (
	"slices"
	"strings"

	"mews/api"
)

// Open opens a note.
func Open(note string, keys []Key) (Opened, api.Errno) {
	if len(note) > 2*api.MaxText {
		return Opened{}, api.ErrLong
	}
	text, signatures, ok := split(note)
	switch {
	case !ok:
		return Opened{}, api.ErrForm
	case len(signatures) > api.MaxKeys:
		return Opened{}, api.ErrMany
	}
	return checked(text, signatures, keys)
}

// split is a note's text and its signatures. No line of a signature is empty,
// so the last empty line of all parts them; where there is none, so is the text.
func split(note string) (string, []signature, bool) {
	end := strings.LastIndex(note, "\n\n") + 1
	if !isText(note[:end]) {
		return "", nil, false
	}
	signatures, ok := readLines(note[end+1:])
	return note[:end], signatures, ok
}

// checked asks the keys about the signatures, one by one.
func checked(text string, signatures []signature, keys []Key) (Opened, api.Errno) {
	opened := Opened{Text: text}
	for i, s := range signatures {
		same := func(ahead signature) bool { return ahead.signer == s.signer }
		if slices.ContainsFunc(signatures[:i], same) {
			return Opened{}, api.ErrTwice
		}
		verify := verifyOf(s.signer, keys)
		switch {
		case verify == nil:
			opened.Unknown = append(opened.Unknown, s.name)
		case !verify(text, s.sig):
			return Opened{}, api.ErrSign
		default:
			opened.Good = append(opened.Good, s.name)
		}
	}
	if len(opened.Good) == 0 {
		return Opened{}, api.ErrKey
	}
	return opened, api.OK
}

// verifyOf is how the first key that is the signer verifies; nil, if none is.
func verifyOf(s signer, keys []Key) func(text string, sig []byte) bool {
	for _, k := range keys {
		if v := verifier(k); s.is(v) {
			return v.Verify
		}
	}
	return nil
}
