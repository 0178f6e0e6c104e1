package note

import (
	"strconv"
	"strings"

	"mews/api"
	"mews/ark"
)

const (
	headMark = "mews log\n"
	rootSize = 32
)

// Head says how long a log is, and its hash.
type Head struct {
	Size int
	Root []byte
}

// FormatHead is a head's text.
func FormatHead(h Head) (string, api.Errno) {
	if h.Size < 0 || h.Size > api.MaxRecords || len(h.Root) != rootSize {
		return "", api.ErrForm
	}
	return headMark + strconv.Itoa(h.Size) + "\n" + ark.Base64(h.Root) + "\n", api.OK
}

// ParseHead is the head of a text.
func ParseHead(text string) (Head, api.Errno) {
	size, root, _ := strings.Cut(strings.TrimPrefix(text, headMark), "\n")
	n, err := strconv.Atoi(size)
	b, e := ark.FromBase64(strings.TrimSuffix(root, "\n"))
	if err != nil || e != api.OK {
		return Head{}, api.ErrForm
	}
	h := Head{Size: n, Root: b}
	// There is one form alone, so what is written anew tells whether text has it.
	if again, e := FormatHead(h); e != api.OK || again != text {
		return Head{}, api.ErrForm
	}
	return h, api.OK
}
