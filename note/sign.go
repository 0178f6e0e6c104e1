package note

import (
	"strings"

	"mews/api"
)

// Sign signs a text.
func Sign(text string, keys []Key) (string, api.Errno) {
	switch {
	case !isText(text):
		return "", api.ErrForm
	case len(text) > api.MaxText:
		return "", api.ErrLong
	case len(keys) == 0 || !areSigners(keys):
		return "", api.ErrKey
	case len(keys) > api.MaxKeys:
		return "", api.ErrMany
	}
	var note strings.Builder
	note.WriteString(text + "\n")
	for _, k := range keys {
		note.WriteString(signature{k.signer(), k.Sign(text)}.line())
	}
	return note.String(), api.OK
}

// areSigners tells whether a note can have a line of each key: no two have the
// same name and ID, and none is without a name, as one that nobody made is.
func areSigners(keys []Key) bool {
	known := make(map[signer]struct{})
	for _, k := range keys {
		if !isKeyName(k.name) {
			return false
		}
		known[k.signer()] = struct{}{}
	}
	return len(known) == len(keys)
}
