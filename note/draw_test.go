package note_test

import (
	"fmt"
	"math/rand"
	"slices"
	"strings"
)

// draw is one of them by chance.
func draw[T any](chance *rand.Rand, all ...T) T { return all[chance.Intn(len(all))] }

// drawBytes is so many bytes.
func drawBytes(chance *rand.Rand, count int) string {
	b := make([]byte, count)
	chance.Read(b)
	return string(b)
}

// drawOf is so many bytes out of some.
func drawOf(chance *rand.Rand, bytes string, count int) string {
	b := make([]byte, count)
	for i := range b {
		b[i] = bytes[chance.Intn(len(bytes))]
	}
	return string(b)
}

// nameBytes is the bytes of keys' names.
func nameBytes() string {
	var b []byte
	for c := byte(0x21); c <= 0x7e; c++ {
		if c != '+' {
			b = append(b, c)
		}
	}
	return string(b)
}

// drawPair is by what a key can be made.
func drawPair(chance *rand.Rand) pair {
	return pair{drawOf(chance, nameBytes(), 1+chance.Intn(50)), drawBytes(chance, 1+chance.Intn(64))}
}

// drawText is a text that may be a note's.
func drawText(chance *rand.Rand) string {
	var text strings.Builder
	for range 1 + chance.Intn(5) {
		text.WriteString(draw(chance, "", "", "hi", "log", " ", "~", "- log AAAAAAA=", "mews log", "+ ", drawOf(chance, nameBytes(), chance.Intn(9))) + "\n")
	}
	return text.String()
}

// drawLoose is bytes, a text or not.
func drawLoose(chance *rand.Rand) string {
	return draw(chance, drawText(chance), drawBytes(chance, chance.Intn(200)))
}

// few is some keys: among them are keys of one name, of one secret, of one name
// and ID, and of one ID.
func few() []pair {
	return slices.Concat([]pair{logKey(), {"log", "t"}, {"else", "s"}, {"~", "x"}}, alike(), oneID())
}

// drawFew is up to so many of them, now and then one twice.
func drawFew(chance *rand.Rand, most int) []pair {
	var pairs []pair
	for range chance.Intn(most + 1) {
		pairs = append(pairs, draw(chance, few()...))
	}
	return pairs
}

// drawLines is lines as they may stand in a note, most of them right.
func drawLines(chance *rand.Rand, text string) string {
	var lines strings.Builder
	for range 1 + chance.Intn(4) {
		p := draw(chance, few()...)
		lines.WriteString(draw(chance, p.line(text), p.line(text), p.line(text), p.wrongLine(), lineOf(p.name, p.modelID()+"x"), lineOf("who", drawBytes(chance, chance.Intn(9)))))
	}
	return lines.String()
}

// spoilt is a text with a byte or some more turned, taken out, put in or told twice.
func spoilt(chance *rand.Rand, s string) string {
	from := chance.Intn(len(s) + 1)
	to := min(len(s), from+chance.Intn(4))
	switch chance.Intn(4) {
	case 0:
		return s[:from] + s[to:]
	case 1:
		return s[:to] + s[from:]
	case 2:
		return s[:from] + draw(chance, "\n", " ", "=", "A", "\xe2", "\x94", "\r", "0", "+", "\u2014 ", "\x7f") + s[to:]
	default:
		return s[:from] + fmt.Sprint(chance.Intn(20)) + s[from:]
	}
}
