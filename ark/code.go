package ark

import (
	"math/bits"
	"strings"

	"mews/api"
)

const (
	polynomial = 0x04c11db7
	digits     = "0123456789abcdef"
	letters    = "ABCDEFGHIJKLMNOPQRSTUVWXYZabcdefghijklmnopqrstuvwxyz0123456789+/"
	fill       = "="
)

// CRC is CRC-32.
func CRC(b []byte) uint32 {
	reflected := bits.Reverse32(polynomial)
	sum := ^uint32(0)
	for _, c := range b {
		sum ^= uint32(c)
		for range 8 {
			// Less a one is all ones: nothing hangs on a branch that is guessed wrong half the time.
			sum = sum>>1 ^ reflected&-(sum&1)
		}
	}
	return ^sum
}

// Hex writes bytes as digits.
func Hex(b []byte) string {
	text := make([]byte, 0, 2*len(b))
	for _, c := range b {
		text = append(text, digits[c>>4], digits[c&0xf])
	}
	return string(text)
}

// Base64 writes bytes as letters.
func Base64(b []byte) string {
	var text strings.Builder
	for i := 0; i < len(b); i += 3 {
		writeGroup(&text, b[i:min(i+3, len(b))])
	}
	return text.String()
}

// writeGroup writes one to three bytes as four letters.
func writeGroup(text *strings.Builder, group []byte) {
	var held uint32
	for i, c := range group {
		held |= uint32(c) << (16 - 8*i)
	}
	for i := range len(group) + 1 {
		text.WriteByte(letters[held>>(18-6*i)&0x3f])
	}
	text.WriteString(strings.Repeat(fill, 3-len(group)))
}

// FromBase64 reads them.
func FromBase64(s string) ([]byte, api.Errno) {
	coded := strings.TrimRight(s, fill)
	b := make([]byte, 0, len(coded)/4*3+2)
	var held, waiting uint32
	for i := range len(coded) {
		value := strings.IndexByte(letters, coded[i])
		if value < 0 {
			return nil, api.ErrForm
		}
		held, waiting = held<<6|uint32(value), waiting+6
		if waiting >= 8 {
			waiting -= 8
			b = append(b, byte(held>>waiting))
		}
	}
	// Spare bits, a letter too many and a wrong end all show in what is written back.
	if Base64(b) != s {
		return nil, api.ErrForm
	}
	return b, api.OK
}
