package note

import (
	"bytes"
	"slices"

	"mews/api"
	"mews/ark"
)

const (
	maxKeyName = 50
	maxSecret  = 64
)

// What is hashed has one of these ahead of the secret's sum, so that no ID can
// pass for a part of a signature.
const (
	idMark   = 1
	signMark = 2
)

// Key signs and checks. One that nobody made has an empty name and an empty
// secret: no note has a line of it.
type Key struct{ name, secret string }

// verifier is all that is asked of a key where a note is opened.
type verifier interface {
	Name() string
	ID() uint32
	Verify(text string, sig []byte) bool
}

// NewKey makes a key.
func NewKey(name string, secret []byte) (Key, api.Errno) {
	if !isKeyName(name) || len(secret) < 1 || len(secret) > maxSecret {
		return Key{}, api.ErrKey
	}
	return Key{name: name, secret: string(secret)}, api.OK
}

// isKeyName tells whether a text may be a key's name.
func isKeyName(name string) bool {
	for i := range len(name) {
		if !isPrinted(name[i]) || name[i] == ' ' || name[i] == '+' {
			return false
		}
	}
	return 1 <= len(name) && len(name) <= maxKeyName
}

// Name is its name.
func (k Key) Name() string { return k.name }

// ID is its number.
func (k Key) ID() uint32 {
	return number(ark.SHA256(slices.Concat([]byte(k.name), []byte{'\n', idMark}, k.secretSum())))
}

// Sign is a text's signature.
func (k Key) Sign(text string) []byte {
	return ark.SHA256(slices.Concat([]byte{signMark}, k.secretSum(), []byte(text)))
}

// Verify tells whether a signature is a text's.
func (k Key) Verify(text string, sig []byte) bool { return bytes.Equal(sig, k.Sign(text)) }

// signer is what its lines say of it.
func (k Key) signer() signer { return signer{k.name, k.ID()} }

// secretSum is what of the secret goes into an ID and a signature.
func (k Key) secretSum() []byte { return ark.SHA256([]byte(k.secret)) }
