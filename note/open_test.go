package note_test

import (
	"encoding/base64"
	"fmt"
	"math/rand"
	"slices"
	"strings"
	"testing"

	"mews/api"
	"mews/note"
)

// opensAsModel fails the test unless Open answers as the model does.
func opensAsModel(t *testing.T, what, s string, pairs []pair) api.Errno {
	t.Helper()
	want, wantE := modelOpen(s, pairs)
	got, e := note.Open(s, keysOf(pairs...))
	isOpened(t, "Open, "+what, got, e, want, wantE)
	return wantE
}

func TestP8_4_Examples(t *testing.T) {
	const example = "hi\n\n\u2014 log LnoASqYqhKukaglJ6n0WaLbpDlcK7McFJZwOCy4mo3oUzFvO\n"
	k := keysOf(logKey())
	opens(t, "the example", example, k, note.Opened{Text: "hi\n", Good: []string{"log"}})
	opensNot(t, "with another key", example, keysOf(pair{"else", "s"}), api.ErrKey)
	opensNot(t, "with another secret", example, keysOf(pair{"log", "t"}), api.ErrKey)
	opensNot(t, "with no key", example, nil, api.ErrKey)
	opensNot(t, "with ho", strings.Replace(example, "hi", "ho", 1), k, api.ErrSign)
}

// wrongForm fails the test unless a text is no note, whatever keys there are.
func wrongForm(t *testing.T, what, s string) {
	t.Helper()
	opensNot(t, what, s, keysOf(logKey()), api.ErrForm)
	opensNot(t, what+", with no key", s, nil, api.ErrForm)
}

func TestP8_2_NoNote(t *testing.T) {
	line := logKey().line("hi\n")
	bare := strings.TrimSuffix(line, "\n")
	for what, s := range map[string]string{
		"nothing":                           "",
		"a newline":                         "\n",
		"newlines":                          "\n\n\n",
		"a text alone":                      "hi\n",
		"a text without a newline":          "hi",
		"no line behind the empty line":     "hi\n\n",
		"two empty lines":                   "hi\n\n\n",
		"no empty line":                     "hi\n" + line,
		"a line alone":                      line,
		"no text":                           "\n" + line,
		"a text that isn't ended":           "hi" + line,
		"an empty line behind the lines":    "hi\n\n" + line + "\n",
		"a text behind the lines":           "hi\n\n" + line + "hi\n",
		"a text between the lines":          "hi\n\n" + line + "hi\n" + logKey().wrongLine(),
		"a text ahead of the lines":         "hi\n\nhi\n" + line,
		"a byte behind the lines":           "hi\n\n" + line + "x",
		"a zero behind the lines":           "hi\n\n" + line + "\x00",
		"a blank behind the lines":          "hi\n\n" + line + " ",
		"no last newline":                   "hi\n\n" + bare,
		"a second line without its newline": "hi\n\n" + line + bare,
		"a carriage return":                 "hi\n\n" + bare + "\r\n",
		"carriage returns all over":         "hi\r\n\r\n" + bare + "\r\n",
		"an empty line between the lines":   "hi\n\n" + line + "\n" + line,
		"a note behind a note":              "hi\n\n" + line + "hi\n\n" + line,
		"a blank in the empty line":         "hi\n \n" + line,
	} {
		wrongForm(t, what, s)
	}
}

func TestP8_2_LinesOfWrongForm(t *testing.T) {
	const code = "LnoASqYqhKukaglJ6n0WaLbpDlcK7McFJZwOCy4mo3oUzFvO"
	for _, line := range []string{
		"log " + code, "- log " + code, "\u2013 log " + code, "\u2014log " + code, "\u2014  log " + code, "\u2014\tlog " + code,
		"\xe2\x80 log " + code, "\x94 log " + code, "\u2014\u2014 log " + code, " \u2014 log " + code, "\u2014 log", "\u2014 log ", "\u2014 ", "\u2014",
		"\u2014 " + code, "\u2014  " + code, "\u2014 log  " + code, "\u2014 log\t" + code, "\u2014 log " + code + " ", "\u2014 log " + code + " x",
		"\u2014 a b " + code, "\u2014 a+b " + code, "\u2014 + " + code, "\u2014 a\x7f " + code, "\u2014 a\x1f " + code, "\u2014 \u00e9 " + code,
		"\u2014 " + strings.Repeat("n", 51) + " " + code, "\u2014 log\u00a0" + code, "\u2014 log x " + code,
	} {
		wrongForm(t, "the line "+brief(line), "hi\n\n"+line+"\n")
		wrongForm(t, "the second line "+brief(line), "hi\n\n"+logKey().line("hi\n")+line+"\n")
		wrongForm(t, "the first line "+brief(line), "hi\n\n"+line+"\n"+logKey().line("hi\n"))
	}
}

func TestP8_2_Base64OfWrongForm(t *testing.T) {
	const line = "\u2014 log "
	for _, code := range []string{
		"A", "AA", "AAA", "AA==", "AAA=", "AAAA", "AAAAA===", "AAAAAA==", "AAAAAA", "AAAAAAA", "AAAAAAB=", "AAAAAAAB=", "AAAAAAAAAB==",
		"AAAAAAAA=", "AAAAAAAA==", "AAAAAAAA====", "AAAAAA=A", "AA==AAAAAAA=", "AAA-AAA=", "AAA_AAA=", "AAAAAAA=AAAAAAA=", "=AAAAAAA", "AAAAAAA=\x00",
		"AAAA AAA=", "AAAAAA\u00e9=", "====", "=", "AAAAAAE=AAAA", "AAAAAAAAAA=", "AAAAAAAAAAAAA",
	} {
		wrongForm(t, "the code "+brief(code), "hi\n\n"+line+code+"\n")
		opensAsModel(t, "the code "+brief(code), "hi\n\n"+logKey().line("hi\n")+line+code+"\n", []pair{logKey()})
	}
	for _, code := range []string{"AAAAAAA=", "AAAAAAAA", "AAAAAAE=", "+/+/AAAAAA==", "AAAAAAAAAAA="} {
		opensNot(t, "the code "+code, "hi\n\n"+line+code+"\n", nil, api.ErrKey)
		opens(t, "the second code "+code, "hi\n\n"+logKey().line("hi\n")+line+code+"\n", keysOf(logKey()), note.Opened{Text: "hi\n", Good: []string{"log"}, Unknown: []string{"log"}})
	}
}

// Four bytes are an ID alone; behind it stands one byte or more, as many as there may be.
func TestP8_2_LengthsOfSignatures(t *testing.T) {
	for n := range 80 {
		line := lineOf("log", strings.Repeat("x", n))
		if n < 5 {
			wrongForm(t, fmt.Sprint(n, " bytes"), "hi\n\n"+line)
		} else {
			opensNot(t, fmt.Sprint(n, " bytes"), "hi\n\n"+line, keysOf(logKey()), api.ErrKey)
		}
	}
	p := logKey()
	right := p.modelID() + p.modelSign("hi\n")
	for _, b := range []string{right[:5], right[:35], right + "x", right + right, right + strings.Repeat("\x00", 40000), p.modelID() + "x", p.modelID() + strings.Repeat("\x00", 32)} {
		opensNot(t, fmt.Sprint("a signature of ", len(b)), "hi\n\n"+lineOf("log", b), keysOf(p), api.ErrSign)
	}
	wrongForm(t, "the ID alone", "hi\n\n"+lineOf("log", p.modelID()))
}

// Each byte is tried within a line's name, and a name of each length.
func TestP8_2_NamesOfLines(t *testing.T) {
	good := "hi\n\n" + logKey().line("hi\n")
	try := func(name string, may bool) {
		t.Helper()
		if s := good + lineOf(name, "\x01\x02\x03\x04x"); may {
			opens(t, "the name "+brief(name), s, keysOf(logKey()), note.Opened{Text: "hi\n", Good: []string{"log"}, Unknown: []string{name}})
		} else {
			wrongForm(t, "the name "+brief(name), s)
		}
	}
	for c := range 256 {
		may := 0x21 <= c && c <= 0x7e && c != '+'
		one := string([]byte{byte(c)})
		try(one, may)
		try("a"+one, may)
		try(one+"a", may)
		try("a"+one+"b", may)
	}
	for n := range 60 {
		try(strings.Repeat("n", n), 1 <= n && n <= 50)
	}
}

func TestP8_2_TextsOfNotes(t *testing.T) {
	k := keysOf(logKey())
	for _, text := range []string{"\n", "\n\n", "a\n\n", "\na\n", "a\n\nb\n", " \n", "~\n", "- log AAAAAAA=\n", "a\n\n- log AAAAAAA=\n", filled(3000)} {
		opens(t, brief(text), modelNote(text, logKey()), k, note.Opened{Text: text, Good: []string{"log"}})
	}
	for c := range 256 {
		text := "a" + string([]byte{byte(c)}) + "b\n"
		if c == '\n' || 0x20 <= c && c <= 0x7e {
			opens(t, brief(text), modelNote(text, logKey()), k, note.Opened{Text: text, Good: []string{"log"}})
		} else {
			wrongForm(t, brief(text), modelNote(text, logKey()))
		}
	}
	for _, text := range []string{"", "a", "a\n\nb", "\r\n", modelNote("hi\n", logKey()), logKey().line("hi\n")} {
		wrongForm(t, brief(text), modelNote(text, logKey()))
	}
}

// The text ends ahead of the last empty line: what is a note up to an earlier
// one is none, or another text's.
func TestP8_4_TheLastEmptyLine(t *testing.T) {
	k := keysOf(logKey())
	line := logKey().line("hi\n")
	opensNot(t, "one empty line more", "hi\n\n\n"+line, k, api.ErrSign)
	opens(t, "one empty line more, signed", "hi\n\n\n"+logKey().line("hi\n\n"), k, note.Opened{Text: "hi\n\n", Good: []string{"log"}})
	opensNot(t, "a text ahead", "ho\n\nhi\n\n"+line, k, api.ErrSign)
	opensNot(t, "newlines ahead", "\n\nhi\n\n"+line, k, api.ErrSign)
	wrongForm(t, "lines within the text", "hi\n\n"+line+"\n"+line)
	wrongForm(t, "a signed note within the text", modelNote(modelNote("hi\n", logKey()), logKey()))
}

func TestP8_4_LongNotes(t *testing.T) {
	k := keysOf(logKey())
	rest := len(modelNote("", logKey()))
	for _, size := range []int{api.MaxText, 2*api.MaxText - 1, 2 * api.MaxText} {
		text := filled(size - rest)
		s := modelNote(text, logKey())
		is(t, "the note's length", len(s), size)
		opens(t, fmt.Sprint("a note of ", size), s, k, note.Opened{Text: text, Good: []string{"log"}})
	}
	for _, size := range []int{2*api.MaxText + 1, 2*api.MaxText + 2, 4 * api.MaxText} {
		opensNot(t, fmt.Sprint("a note of ", size), modelNote(filled(size-rest), logKey()), k, api.ErrLong)
		opensNot(t, fmt.Sprint("no note of ", size), strings.Repeat("a", size), k, api.ErrLong)
		opensNot(t, fmt.Sprint("no note of ", size), strings.Repeat("\xff", size), nil, api.ErrLong)
	}
	for _, s := range []string{strings.Repeat("a", 2*api.MaxText), strings.Repeat("\n", 2*api.MaxText), strings.Repeat("\n", 2*api.MaxText-1) + "a"} {
		opensNot(t, "no note", s, k, api.ErrForm)
	}
	opensNot(t, "newlines, and a line", strings.Repeat("\n", 2*api.MaxText-len(logKey().line("")))+logKey().line(""), k, api.ErrSign)
}

func TestP8_4_HowManyLines(t *testing.T) {
	for n := 1; n <= 20; n++ {
		pairs := someKeys(n)
		s := modelNote("hi\n", pairs...)
		if n <= api.MaxKeys {
			opensAsModel(t, fmt.Sprint(n, " lines"), s, pairs)
			opens(t, fmt.Sprint(n, " lines"), s, keysOf(pairs[n-1]), note.Opened{Text: "hi\n", Good: namesOf(pairs[n-1:]), Unknown: namesOf(pairs[:n-1])})
		} else {
			opensNot(t, fmt.Sprint(n, " lines"), s, keysOf(pairs...), api.ErrMany)
		}
	}
	opensNot(t, "as many lines as fit", "\n\n"+strings.Repeat("\u2014 a AAAAAAA=\n", 2*api.MaxText/16-1), nil, api.ErrMany)
}

// namesOf is the names of keys.
func namesOf(pairs []pair) []string {
	var names []string
	for _, p := range pairs {
		names = append(names, p.name)
	}
	return names
}

// However many keys are asked: the bound is the lines'.
func TestP8_4_ManyKeys(t *testing.T) {
	pairs := append(someKeys(2000), logKey())
	opens(t, "the last of many keys", modelNote("hi\n", logKey()), keysOf(pairs...), note.Opened{Text: "hi\n", Good: []string{"log"}})
	opens(t, "a key many times", modelNote("hi\n", logKey()), slices.Repeat(keysOf(logKey()), 50), note.Opened{Text: "hi\n", Good: []string{"log"}})
}

func TestP8_4_Twice(t *testing.T) {
	k := keysOf(logKey())
	line, wrong := logKey().line("hi\n"), logKey().wrongLine()
	other, third := pair{"log", "t"}.line("hi\n"), pair{"else", "s"}.line("hi\n")
	for _, x := range []struct {
		what, lines string
		e           api.Errno
	}{
		{"twice a good one", line + line, api.ErrTwice},
		{"a good one, a bad one", line + wrong, api.ErrTwice},
		{"a bad one, a good one", wrong + line, api.ErrSign},
		{"twice a bad one", wrong + wrong, api.ErrSign},
		{"twice, another one between", line + third + line, api.ErrTwice},
		{"twice an unknown one", line + other + other, api.ErrTwice},
		{"twice an unknown one, a good one behind", other + other + line, api.ErrTwice},
		{"twice an unknown one, a bad one behind", other + other + wrong, api.ErrTwice},
		{"a bad one, then twice an unknown one", wrong + other + other, api.ErrSign},
		{"twice an unknown one alone", other + other, api.ErrTwice},
		{"twice an unknown one with unlike signatures", lineOf("u", "abcdx") + lineOf("u", "abcdy"), api.ErrTwice},
		{"one name with four IDs, and one again", line + lineOf("log", "abcdx") + lineOf("log", "abcex") + lineOf("log", "bbcdx") + lineOf("log", "abcdxx"), api.ErrTwice},
		{"eight, the last as the first", line + strings.Join([]string{lineOf("log", "1000x"), lineOf("log", "0100x"), lineOf("log", "0010x"), lineOf("log", "0001x"), lineOf("a", "0001x"), lineOf("b", "0001x")}, "") + line, api.ErrTwice},
		{"nine the same", strings.Repeat(line, 9), api.ErrMany},
		{"nine bad ones", strings.Repeat(wrong, 9), api.ErrMany},
		{"a bad one behind an unknown one", other + wrong, api.ErrSign},
		{"unknown ones alone", other + third, api.ErrKey},
		{"a good one, a bad one, no note", line + wrong + "x", api.ErrForm},
		{"nine, no note", strings.Repeat(line, 9) + "\u2014 log AAAA\n", api.ErrForm},
	} {
		opensNot(t, x.what, "hi\n\n"+x.lines, k, x.e)
	}
}

func TestP8_4_GoodAndUnknown(t *testing.T) {
	k := keysOf(logKey())
	line, other, third := logKey().line("hi\n"), pair{"log", "t"}.line("hi\n"), pair{"else", "s"}.line("hi\n")
	for _, x := range []struct {
		what, lines string
		unknown     []string
	}{
		{"a good one", line, nil},
		{"another ID behind", line + other, []string{"log"}},
		{"another ID ahead", other + line, []string{"log"}},
		{"unknown ones ahead", third + other + line, []string{"else", "log"}},
		{"unknown ones around", third + line + other, []string{"else", "log"}},
		{"unknown ones behind", line + other + third, []string{"log", "else"}},
		{"an unknown one with the ID", line + lineOf("Log", logKey().modelID()+"x"), []string{"Log"}},
		{"unknown ones with one ID", line + lineOf("b", "abcdx") + lineOf("a", "abcdx"), []string{"b", "a"}},
		{"unknown ones whose name and ID run together", line + lineOf("a", "babcx") + lineOf("ab", "abcdx"), []string{"a", "ab"}},
	} {
		opens(t, x.what, "hi\n\n"+x.lines, k, note.Opened{Text: "hi\n", Good: []string{"log"}, Unknown: x.unknown})
	}
	two := keysOf(logKey(), pair{"log", "t"})
	opens(t, "one name, two IDs", "hi\n\n"+line+other, two, note.Opened{Text: "hi\n", Good: []string{"log", "log"}})
	opens(t, "one name, two IDs, the other way round", "hi\n\n"+other+third+line, two, note.Opened{Text: "hi\n", Good: []string{"log", "log"}, Unknown: []string{"else"}})
	opensNot(t, "one name, two IDs, one of them bad", "hi\n\n"+line+pair{"log", "t"}.wrongLine(), two, api.ErrSign)
	opensNot(t, "one name, two IDs, the signatures the other way round", "hi\n\n"+lineOf("log", logKey().modelID()+pair{"log", "t"}.modelSign("hi\n"))+other, two, api.ErrSign)
	names := oneID()
	s := modelNote("hi\n", names...)
	opens(t, "two names, one ID", s, keysOf(names[0]), note.Opened{Text: "hi\n", Good: []string{names[0].name}, Unknown: []string{names[1].name}})
	opens(t, "two names, one ID", s, keysOf(names[1]), note.Opened{Text: "hi\n", Good: []string{names[1].name}, Unknown: []string{names[0].name}})
	opens(t, "two names, one ID", s, keysOf(names[1], names[0]), note.Opened{Text: "hi\n", Good: namesOf(names)})
}

// Of keys with one name and ID the first counts, whatever the others would say.
func TestP8_4_TheFirstKeyCounts(t *testing.T) {
	a, b := alike()[0], alike()[1]
	for _, x := range []struct {
		signed pair
		keys   []pair
		e      api.Errno
	}{
		{a, []pair{a, b}, api.OK},
		{a, []pair{b, a}, api.ErrSign},
		{b, []pair{a, b}, api.ErrSign},
		{b, []pair{b, a}, api.OK},
		{a, []pair{logKey(), a, b, a}, api.OK},
		{a, []pair{b, logKey(), a, b}, api.ErrSign},
		{a, []pair{a, a, b}, api.OK},
		{a, []pair{b}, api.ErrSign},
	} {
		s := modelNote("hi\n", x.signed)
		if x.e == api.OK {
			opens(t, brief(x.keys), s, keysOf(x.keys...), note.Opened{Text: "hi\n", Good: []string{"log"}})
		} else {
			opensNot(t, brief(x.keys), s, keysOf(x.keys...), x.e)
		}
	}
}

// The order: ErrLong, ErrForm, ErrMany, line by line ErrTwice and ErrSign, ErrKey.
func TestP8_4_OrderOfErrors(t *testing.T) {
	k := keysOf(logKey())
	line, wrong, unknown := logKey().line("hi\n"), logKey().wrongLine(), lineOf("u", "abcdx")
	long := filled(2 * api.MaxText)
	nine := strings.Repeat(line, 9)
	for i, x := range []struct {
		s string
		e api.Errno
	}{
		{long + "\x00\n" + nine + "x", api.ErrLong},
		{long + "\n" + nine, api.ErrLong},
		{long + "\n" + wrong, api.ErrLong},
		{long + "\n" + unknown, api.ErrLong},
		{"hi\x00\n\n" + nine, api.ErrForm},
		{"hi\n\n" + nine + "\u2014 a b\n", api.ErrForm},
		{"hi\x00\n\n" + line + line, api.ErrForm},
		{"hi\x00\n\n" + wrong, api.ErrForm},
		{"hi\x00\n\n" + unknown, api.ErrForm},
		{"hi\n\n" + wrong + "x", api.ErrForm},
		{"hi\n\n" + line + line + "x", api.ErrForm},
		{"hi\n\n" + strings.Repeat(wrong, 9), api.ErrMany},
		{"hi\n\n" + strings.Repeat(unknown, 9), api.ErrMany},
		{"hi\n\n" + wrong + nine, api.ErrMany},
		{"hi\n\n" + strings.Repeat(line, 8) + wrong, api.ErrMany},
		{"hi\n\n" + strings.Repeat(line, 8), api.ErrTwice},
		{"hi\n\n" + unknown + line + unknown, api.ErrTwice},
		{"hi\n\n" + unknown + unknown + wrong, api.ErrTwice},
		{"hi\n\n" + wrong + unknown + unknown, api.ErrSign},
		{"hi\n\n" + line + unknown + wrong, api.ErrTwice},
		{"hi\n\n" + unknown + wrong + line, api.ErrSign},
		{"hi\n\n" + unknown, api.ErrKey},
	} {
		opensNot(t, fmt.Sprint("the case ", i), x.s, k, x.e)
	}
}

// Each byte of a note is turned into each other one.
func TestP8_4_EachByteTurned(t *testing.T) {
	pairs := []pair{logKey(), {"b", "x"}}
	s := modelNote("a\n\nb\n", pairs...)
	found := map[api.Errno]int{}
	for place := range len(s) {
		for c := range 256 {
			found[opensAsModel(t, fmt.Sprint("the byte ", c, " at ", place), replaced(s, place, byte(c)), pairs)]++
		}
	}
	for _, e := range []api.Errno{api.OK, api.ErrForm, api.ErrSign} {
		if found[e] < 50 {
			t.Errorf("Open's error %d was found %d times", e, found[e])
		}
	}
}

// A note is cut at each place, and has each byte taken out or told twice.
func TestP8_4_CutAtEachPlace(t *testing.T) {
	pairs := []pair{logKey(), {"b", "x"}}
	s := modelNote("a\n\nb\n", pairs...)
	for place := range len(s) {
		opensAsModel(t, fmt.Sprint("the first ", place), s[:place], pairs)
		opensAsModel(t, fmt.Sprint("from ", place, " on"), s[place:], pairs)
		opensAsModel(t, fmt.Sprint("without the byte ", place), s[:place]+s[place+1:], pairs)
		opensAsModel(t, fmt.Sprint("twice the byte ", place), s[:place+1]+s[place:], pairs)
		opensAsModel(t, fmt.Sprint("a newline at ", place), s[:place]+"\n"+s[place:], pairs)
	}
}

func TestP8_4_AsTheModelOpens(t *testing.T) {
	chance := rand.New(rand.NewSource(85))
	found := map[api.Errno]int{}
	for range 6000 {
		text := drawText(chance)
		s := text + "\n" + drawLines(chance, text)
		for range draw(chance, 0, 0, 1, 2) {
			s = spoilt(chance, s)
		}
		found[opensAsModel(t, brief(s), s, drawFew(chance, 4))]++
	}
	for _, e := range []api.Errno{api.OK, api.ErrForm, api.ErrTwice, api.ErrSign, api.ErrKey} {
		if found[e] < 100 {
			t.Errorf("Open's error %d was drawn %d times", e, found[e])
		}
	}
}

// The bits that the last letter of a code has to spare are zero.
func TestP8_2_EachLastLetter(t *testing.T) {
	const letters = "ABCDEFGHIJKLMNOPQRSTUVWXYZabcdefghijklmnopqrstuvwxyz0123456789+/"
	good := modelNote("hi\n", logKey())
	for _, around := range [][2]string{{"AAAAAAA", ""}, {"AAAAAA", "="}, {"AAAAAAAAA", "=="}} {
		for i := range letters {
			code := around[0] + letters[i:i+1] + around[1]
			_, err := base64.StdEncoding.Strict().DecodeString(code)
			_, e := note.Open(good+"\u2014 u "+code+"\n", keysOf(logKey()))
			is(t, "whether "+code+" may be", e == api.OK, err == nil)
		}
	}
}
