package mod

import "unicode/utf8"

// every tells whether each byte of a text may be there.
func every(s string, may func(c byte) bool) bool {
	for i := range len(s) {
		if !may(s[i]) {
			return false
		}
	}
	return true
}

// digits tells whether a text is one digit or more, and nothing else.
func digits(s string) bool { return s != "" && every(s, digit) }

func digit(c byte) bool { return '0' <= c && c <= '9' }

func lower(c byte) bool { return 'a' <= c && c <= 'z' }

func upper(c byte) bool { return 'A' <= c && c <= 'Z' }

func letter(c byte) bool { return lower(c) || upper(c) }

func ascii(c byte) bool { return c < utf8.RuneSelf }
