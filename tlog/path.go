package tlog

import (
	"strconv"
	"strings"

	"mews/api"
)

// partMark stands ahead of the width of a tile that is not full.
const partMark = ".p/"

// Path is a tile's path.
func Path(t Tile) (string, api.Errno) {
	if !isWithin(t, api.MaxRecords) {
		return "", api.ErrForm
	}
	path := "tile/" + strconv.Itoa(t.H) + "/" + strconv.Itoa(t.L) + "/" + grouped(t.N)
	if t.W != 1<<t.H {
		path += partMark + strconv.Itoa(t.W)
	}
	return path, api.OK
}

// grouped is a number in groups of three digits.
func grouped(n int) string {
	text := threeDigits(n % 1000)
	for n /= 1000; n > 0; n /= 1000 {
		text = "x" + threeDigits(n%1000) + "/" + text
	}
	return text
}

// threeDigits is a number below 1000 with zeros ahead.
func threeDigits(n int) string { return strconv.Itoa(1000 + n)[1:] }

// ParsePath is the tile of a path.
func ParsePath(s string) (Tile, api.Errno) {
	t, ok := readPath(s)
	if !ok {
		return Tile{}, api.ErrForm
	}
	// There is one form alone, so what is written anew tells whether s has it.
	if path, e := Path(t); e != api.OK || path != s {
		return Tile{}, api.ErrForm
	}
	return t, api.OK
}

// readPath is the one tile whose path s can be.
func readPath(s string) (Tile, bool) {
	front, width, partial := strings.Cut(s, partMark)
	parts := strings.SplitN(front, "/", 4)
	if len(parts) < 4 {
		return Tile{}, false
	}
	digits := strings.ReplaceAll(strings.ReplaceAll(parts[3], "x", ""), "/", "")
	h, hErr := strconv.Atoi(parts[1])
	l, lErr := strconv.Atoi(parts[2])
	n, nErr := strconv.Atoi(digits)
	if hErr != nil || lErr != nil || nErr != nil || !isHeight(h) {
		return Tile{}, false
	}
	if !partial {
		return Tile{H: h, L: l, N: n, W: 1 << h}, true
	}
	w, err := strconv.Atoi(width)
	return Tile{H: h, L: l, N: n, W: w}, err == nil
}
