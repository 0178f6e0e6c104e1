package note_test

import (
	"crypto/sha256"
	"encoding/base64"
	"encoding/binary"
	"fmt"
	"regexp"
	"slices"
	"strconv"
	"strings"

	"mews/api"
	"mews/note"
)

// The model is a second reading of the chapter, by other means.

// modelKeyName is what a key's name is.
const modelKeyName = `[!-*,-~]{1,50}`

var (
	keyNameForm = regexp.MustCompile(`\A` + modelKeyName + `\z`)
	textForm    = regexp.MustCompile(`\A([ -~]*\n)+\z`)
	lineForm    = regexp.MustCompile(`\x{2014} (` + modelKeyName + `) ([A-Za-z0-9+/]{4,}={0,2})\n`)
	noteForm    = regexp.MustCompile(`\A((?:[ -~]*\n)+)\n((?:\x{2014} ` + modelKeyName + ` [A-Za-z0-9+/]{4,}={0,2}\n)+)\z`)
	headForm    = regexp.MustCompile(`\Amews log\n(0|[1-9][0-9]{0,6})\n([A-Za-z0-9+/]{43}=)\n\z`)
)

// sum is SHA-256 of parts in a row.
func sum(parts ...string) string {
	b := sha256.Sum256([]byte(strings.Join(parts, "")))
	return string(b[:])
}

// modelID is the four bytes of a key's ID.
func (p pair) modelID() string { return sum(p.name, "\n", "\x01", sum(p.secret))[:4] }

// modelSign is a key's signature of a text.
func (p pair) modelSign(text string) string { return sum("\x02", sum(p.secret), text) }

// lineOf is a line with a name, and with bytes whose Base64 stands in it.
func lineOf(name, b string) string {
	return "\xe2\x80\x94 " + name + " " + base64.StdEncoding.EncodeToString([]byte(b)) + "\n"
}

// line is a key's line for a text.
func (p pair) line(text string) string { return lineOf(p.name, p.modelID()+p.modelSign(text)) }

// wrongLine is a line with a key's name and ID, and a signature that is none.
func (p pair) wrongLine() string { return lineOf(p.name, p.modelID()+strings.Repeat("x", 32)) }

// modelNote is a text's note with a line of each key.
func modelNote(text string, pairs ...pair) string {
	s := text + "\n"
	for _, p := range pairs {
		s += p.line(text)
	}
	return s
}

func modelSign(text string, pairs []pair) (string, api.Errno) {
	if !textForm.MatchString(text) {
		return "", api.ErrForm
	}
	if len(text) > api.MaxText {
		return "", api.ErrLong
	}
	known := map[string]bool{}
	for _, p := range pairs {
		known[p.name+" "+p.modelID()] = true
	}
	if len(pairs) == 0 || len(known) < len(pairs) {
		return "", api.ErrKey
	}
	if len(pairs) > api.MaxKeys {
		return "", api.ErrMany
	}
	return modelNote(text, pairs...), api.OK
}

// modelLine is what a line says.
type modelLine struct{ name, id, sig string }

// modelLines is a note's text and what its lines say; none, if it is no note.
func modelLines(s string) (string, []modelLine) {
	parts := noteForm.FindStringSubmatch(s)
	if parts == nil {
		return "", nil
	}
	var lines []modelLine
	for _, line := range lineForm.FindAllStringSubmatch(parts[2], -1) {
		b, err := base64.StdEncoding.Strict().DecodeString(line[2])
		if err != nil || len(b) < 5 {
			return "", nil
		}
		lines = append(lines, modelLine{line[1], string(b[:4]), string(b[4:])})
	}
	return parts[1], lines
}

func modelOpen(s string, pairs []pair) (note.Opened, api.Errno) {
	if len(s) > 2*api.MaxText {
		return note.Opened{}, api.ErrLong
	}
	text, lines := modelLines(s)
	if len(lines) == 0 {
		return note.Opened{}, api.ErrForm
	}
	if len(lines) > api.MaxKeys {
		return note.Opened{}, api.ErrMany
	}
	opened := note.Opened{Text: text}
	known := map[string]bool{}
	for _, line := range lines {
		who := line.name + " " + line.id
		if known[who] {
			return note.Opened{}, api.ErrTwice
		}
		known[who] = true
		i := slices.IndexFunc(pairs, func(p pair) bool { return p.name+" "+p.modelID() == who })
		if i < 0 {
			opened.Unknown = append(opened.Unknown, line.name)
		} else if pairs[i].modelSign(text) == line.sig {
			opened.Good = append(opened.Good, line.name)
		} else {
			return note.Opened{}, api.ErrSign
		}
	}
	if opened.Good == nil {
		return note.Opened{}, api.ErrKey
	}
	return opened, api.OK
}

func modelFormatHead(h note.Head) string {
	return fmt.Sprintf("mews log\n%d\n%s\n", h.Size, base64.StdEncoding.EncodeToString(h.Root))
}

func modelParseHead(text string) (note.Head, api.Errno) {
	parts := headForm.FindStringSubmatch(text)
	if parts == nil {
		return note.Head{}, api.ErrForm
	}
	size, _ := strconv.Atoi(parts[1])
	root, err := base64.StdEncoding.Strict().DecodeString(parts[2])
	if err != nil || size > api.MaxRecords {
		return note.Head{}, api.ErrForm
	}
	return note.Head{Size: size, Root: root}, api.OK
}

// idOf is the number of an ID's bytes.
func idOf(b string) uint32 { return binary.BigEndian.Uint32([]byte(b)) }
