package mod

import (
	"strings"

	"mews/api"
)

// escapeMark stands ahead of a letter that is an upper-case one.
const escapeMark = '!'

// fromUpper is how far behind an upper-case letter the lower-case one stands.
const fromUpper = 'a' - 'A'

// Escape writes a text without upper-case letters.
func Escape(s string) (string, api.Errno) {
	if !every(s, plainByte) {
		return "", api.ErrForm
	}
	var escaped strings.Builder
	for i := range len(s) {
		c := s[i]
		if upper(c) {
			escaped.WriteByte(escapeMark)
			c += fromUpper
		}
		escaped.WriteByte(c)
	}
	return escaped.String(), api.OK
}

// Unescape reads it.
func Unescape(s string) (string, api.Errno) {
	if !every(s, escapedByte) {
		return "", api.ErrForm
	}
	var plain strings.Builder
	for i := 0; i < len(s); i++ {
		c := s[i]
		if c == escapeMark {
			i++
			if i == len(s) || !lower(s[i]) {
				return "", api.ErrForm
			}
			c = s[i] - fromUpper
		}
		plain.WriteByte(c)
	}
	return plain.String(), api.OK
}

func plainByte(c byte) bool { return ascii(c) && c != escapeMark }

func escapedByte(c byte) bool { return ascii(c) && !upper(c) }
