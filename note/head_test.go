package note_test

import (
	"fmt"
	"math"
	"math/rand"
	"strings"
	"testing"

	"mews/api"
	"mews/note"
)

// emptyRoot is Base64 of SHA-256 of nothing.
const emptyRoot = "47DEQpj8HBSa+/TImW+5JCeuQeRkm5NMpJWZG3hSuFU="

// headOf is a head of a size, with a root that is any.
func headOf(size int) note.Head {
	return note.Head{Size: size, Root: []byte(sum(fmt.Sprint("root ", size)))}
}

// formats fails the test unless a head has a text, and the text the head.
func formats(t *testing.T, h note.Head, want string) {
	t.Helper()
	what := fmt.Sprint("the head of ", h.Size)
	got, e := note.FormatHead(h)
	isError(t, what, e, api.OK)
	is(t, what, got, want)
	back, e := note.ParseHead(want)
	isHead(t, what, back, e, h, api.OK)
}

// formatsNot fails the test unless a head has no text.
func formatsNot(t *testing.T, h note.Head) {
	t.Helper()
	what := fmt.Sprint("the head of ", h.Size, ", its root of ", len(h.Root))
	got, e := note.FormatHead(h)
	isError(t, what, e, api.ErrForm)
	is(t, what, got, "")
}

// isNoHead fails the test unless a text is no head's.
func isNoHead(t *testing.T, text string) {
	t.Helper()
	h, e := note.ParseHead(text)
	isHead(t, "ParseHead of "+brief(text), h, e, note.Head{}, api.ErrForm)
}

func TestP8_5_Examples(t *testing.T) {
	formats(t, note.Head{Size: 0, Root: []byte(sum())}, "mews log\n0\n"+emptyRoot+"\n")
	isNoHead(t, "mews log\n00\n"+emptyRoot+"\n")
	isNoHead(t, "mews log\n0\n"+emptyRoot+"\nhi\n")
	isNoHead(t, "mews log\n0\n"+emptyRoot+"\n\n")
}

func TestP8_5_Sizes(t *testing.T) {
	for _, size := range []int{0, 1, 2, 9, 10, 11, 99, 100, 101, 255, 256, 1000, 65536, 999999, 1000000, api.MaxRecords - 1, api.MaxRecords} {
		formats(t, headOf(size), modelFormatHead(headOf(size)))
	}
	for _, size := range []int{-1, -2, -10, -api.MaxRecords, api.MaxRecords + 1, api.MaxRecords + 2, 2 * api.MaxRecords, math.MaxInt32, math.MaxInt32 + 1, 1 << 32, math.MinInt32, math.MaxInt, math.MinInt} {
		formatsNot(t, headOf(size))
		isNoHead(t, modelFormatHead(headOf(size)))
	}
}

func TestP8_5_Roots(t *testing.T) {
	for n := range 100 {
		for _, size := range []int{0, 7} {
			h := note.Head{Size: size, Root: []byte(strings.Repeat("r", n))}
			if n == 32 {
				formats(t, h, modelFormatHead(h))
			} else {
				formatsNot(t, h)
				isNoHead(t, modelFormatHead(h))
			}
		}
	}
	for c := range 256 {
		h := note.Head{Size: c, Root: []byte(strings.Repeat(string([]byte{byte(c)}), 32))}
		formats(t, h, modelFormatHead(h))
	}
	formatsNot(t, note.Head{})
	formatsNot(t, note.Head{Size: -1})
	formatsNot(t, note.Head{Size: 1, Root: make([]byte, 1<<16)})
}

func TestP8_5_SizesOfWrongForm(t *testing.T) {
	for _, size := range []string{
		"", "00", "01", "007", "0000000", "+0", "-0", "+1", "-1", "--1", " 1", "1 ", "1 2", "1.0", "1e3", "0x1", "0b1", "1_0", "1,0", "a", "\u0661", "\r1", "1\r", "\t1",
		"1048577", "2097152", "9999999", "01048576", "4294967296", "4294967297", "9223372036854775807", "9223372036854775808", "-9223372036854775808",
		"18446744073709551616", "18446744073709551617", strings.Repeat("0", 100), strings.Repeat("9", 100), "1" + strings.Repeat("0", 1000), "\n1", "1\n", "NaN", "\x00", "1\x00",
	} {
		isNoHead(t, "mews log\n"+size+"\n"+emptyRoot+"\n")
	}
}

func TestP8_5_TextsOfWrongForm(t *testing.T) {
	right := "mews log\n7\n" + emptyRoot + "\n"
	for _, text := range []string{
		"", "\n", "\n\n\n", "mews log", "mews log\n", "mews log\n7", "mews log\n7\n", "mews log\n7\n\n", "mews log\n7\n" + emptyRoot, "7\n" + emptyRoot + "\n", emptyRoot + "\n",
		"\n" + right, right + "\n", right + "x", right + "x\n", right + right, right + "\x00", " " + right, right + " ", "mews  log\n7\n" + emptyRoot + "\n", "Mews log\n7\n" + emptyRoot + "\n",
		"mews log \n7\n" + emptyRoot + "\n", "mews log\n\n7\n" + emptyRoot + "\n", "mews log\n7\n\n" + emptyRoot + "\n", "mews log\n7 " + emptyRoot + "\n", "mews log 7\n" + emptyRoot + "\n",
		"mews log\r\n7\r\n" + emptyRoot + "\r\n", "mews log\nmews log\n7\n" + emptyRoot + "\n", "mews\nlog\n7\n" + emptyRoot + "\n", "ews log\n7\n" + emptyRoot + "\n", "mews log\n" + emptyRoot + "\n7\n",
		"mews log7\n" + emptyRoot + "\n", "mews log\n7\n" + emptyRoot + "\n\u2014", "mews log\n7\n" + emptyRoot + "\n8\n" + emptyRoot + "\n", "mews log\n7\n8\n" + emptyRoot + "\n", strings.Repeat("a", 1<<20), strings.Repeat("\n", 1<<20),
		modelNote(right, logKey()),
	} {
		isNoHead(t, text)
	}
}

func TestP8_5_RootsOfWrongForm(t *testing.T) {
	for _, root := range []string{
		"", "=", "====", strings.TrimSuffix(emptyRoot, "="), emptyRoot + "=", emptyRoot + "====", strings.Replace(emptyRoot, "U=", "V=", 1), strings.Replace(emptyRoot, "U=", "W=", 1), strings.Replace(emptyRoot, "U=", "X=", 1),
		strings.Replace(emptyRoot, "U=", "UA", 1), strings.ReplaceAll(strings.ReplaceAll(emptyRoot, "+", "-"), "/", "_"), " " + emptyRoot, emptyRoot + " ", emptyRoot[:20] + " " + emptyRoot[20:], emptyRoot[:20] + "\n" + emptyRoot[20:],
		emptyRoot[:20] + "\r" + emptyRoot[20:], emptyRoot[4:], "AAAA" + emptyRoot, strings.Repeat("A", 43), strings.Repeat("A", 44), strings.Repeat("A", 42) + "==", "h1:" + emptyRoot, strings.Repeat("A", 1<<20), "\xff" + emptyRoot[1:],
	} {
		isNoHead(t, "mews log\n7\n"+root+"\n")
	}
}

// Each byte of a head's text is turned into each other one, taken out, told twice.
func TestP8_5_EachByteTurned(t *testing.T) {
	for _, size := range []int{0, 7, 10, 104857, api.MaxRecords} {
		text := modelFormatHead(headOf(size))
		for place := range len(text) {
			for c := range 256 {
				parsesAsModel(t, replaced(text, place, byte(c)))
			}
			parsesAsModel(t, text[:place])
			parsesAsModel(t, text[place:])
			parsesAsModel(t, text[:place]+text[place+1:])
			parsesAsModel(t, text[:place+1]+text[place:])
		}
	}
}

// parsesAsModel fails the test unless ParseHead answers as the model does.
func parsesAsModel(t *testing.T, text string) api.Errno {
	t.Helper()
	want, wantE := modelParseHead(text)
	got, e := note.ParseHead(text)
	isHead(t, "ParseHead of "+brief(text), got, e, want, wantE)
	return wantE
}

func TestP8_5_AsTheModelParses(t *testing.T) {
	chance := rand.New(rand.NewSource(86))
	found := map[api.Errno]int{}
	for range 10000 {
		h := note.Head{Size: draw(chance, chance.Intn(20), chance.Intn(api.MaxRecords+1), api.MaxRecords-2+chance.Intn(5)), Root: []byte(drawBytes(chance, 32))}
		text := modelFormatHead(h)
		if chance.Intn(2) == 0 {
			text = spoilt(chance, text)
		}
		found[parsesAsModel(t, text)]++
	}
	if found[api.OK] < 1000 || found[api.ErrForm] < 1000 {
		t.Errorf("heads and others were drawn %d and %d times", found[api.OK], found[api.ErrForm])
	}
}
