package sumfile

import "strings"

// The form of a sum.
const (
	sumHead  = "h1:"
	sumSigns = 43
	sumEnd   = "="
	signs    = "ABCDEFGHIJKLMNOPQRSTUVWXYZabcdefghijklmnopqrstuvwxyz0123456789+/"
)

// spareBits are those of the last sign that say nothing: 43 signs of six bits
// have two more than 32 bytes.
const spareBits = 0b11

// ValidSum tells whether a text is a sum.
func ValidSum(s string) bool {
	behind, hasHead := strings.CutPrefix(s, sumHead)
	coded, hasEnd := strings.CutSuffix(behind, sumEnd)
	if !hasHead || !hasEnd || len(coded) != sumSigns {
		return false
	}
	last := 0
	for i := range len(coded) {
		last = strings.IndexByte(signs, coded[i])
		if last < 0 {
			return false
		}
	}
	return last&spareBits == 0
}
