package note_test

import (
	"fmt"
	"math/rand"
	"testing"

	"mews/api"
	"mews/note"
)

// parted is the keys that a choice takes, and those that it leaves.
func parted(pairs []pair, choice int) (taken, left []pair) {
	for i, p := range pairs {
		if choice>>i&1 == 1 {
			taken = append(taken, p)
		} else {
			left = append(left, p)
		}
	}
	return taken, left
}

// tellsEachChoice fails the test unless Open of Sign tells the text and the
// names, with each choice of the keys, in any order and with others beside.
func tellsEachChoice(t *testing.T, chance *rand.Rand, text string, pairs []pair) {
	t.Helper()
	s, e := note.Sign(text, keysOf(pairs...))
	isError(t, "Sign", e, api.OK)
	for choice := range 1 << len(pairs) {
		taken, left := parted(pairs, choice)
		keys := append(keysOf(taken...), key("beside", "s"))
		chance.Shuffle(len(keys), func(i, k int) { keys[i], keys[k] = keys[k], keys[i] })
		what := fmt.Sprint("the choice ", choice, " of ", len(pairs))
		if choice == 0 {
			opensNot(t, what, s, keys, api.ErrKey)
			opensNot(t, what+", no key", s, nil, api.ErrKey)
		} else {
			opens(t, what, s, keys, note.Opened{Text: text, Good: namesOf(taken), Unknown: namesOf(left)})
		}
	}
}

func TestP8_7_EachChoiceOfKeys(t *testing.T) {
	chance := rand.New(rand.NewSource(87))
	for n := 1; n <= api.MaxKeys; n++ {
		tellsEachChoice(t, chance, "hi\n\nyou\n", someKeys(n))
	}
	tellsEachChoice(t, chance, "\n", []pair{{"log", "s"}, {"log", "t"}, {"log", "u"}, {"else", "s"}})
	tellsEachChoice(t, chance, "hi\n", oneID())
	for range 100 {
		var pairs []pair
		for range 1 + chance.Intn(4) {
			pairs = append(pairs, drawPair(chance))
		}
		tellsEachChoice(t, chance, drawText(chance), pairs)
	}
}

func TestP8_7_HeadsThereAndBack(t *testing.T) {
	chance := rand.New(rand.NewSource(88))
	for range 3000 {
		h := note.Head{Size: draw(chance, chance.Intn(100), chance.Intn(api.MaxRecords+1)), Root: []byte(drawBytes(chance, 32))}
		text, e := note.FormatHead(h)
		isError(t, "FormatHead", e, api.OK)
		back, e := note.ParseHead(text)
		isHead(t, "ParseHead of FormatHead", back, e, h, api.OK)
	}
}

// A head that was signed, opened and read is the head.
func TestP8_7_SignedHeads(t *testing.T) {
	k := keysOf(logKey())
	for _, size := range []int{0, 1, 12345, api.MaxRecords} {
		text, e := note.FormatHead(headOf(size))
		isError(t, "FormatHead", e, api.OK)
		s, e := note.Sign(text, k)
		isError(t, "Sign", e, api.OK)
		opened, e := note.Open(s, k)
		isOpened(t, "Open", opened, e, note.Opened{Text: text, Good: []string{"log"}}, api.OK)
		back, e := note.ParseHead(opened.Text)
		isHead(t, "ParseHead", back, e, headOf(size), api.OK)
	}
}

// Where Open answers OK, each good name has a key, and a line, that verifies the text.
func TestP8_8_GoodIsVerified(t *testing.T) {
	chance := rand.New(rand.NewSource(89))
	good := 0
	for range 6000 {
		text := drawText(chance)
		s := text + "\n" + drawLines(chance, text)
		if chance.Intn(3) == 0 {
			s = spoilt(chance, s)
		}
		pairs := drawFew(chance, 4)
		opened, e := note.Open(s, keysOf(pairs...))
		if e != api.OK {
			continue
		}
		_, lines := modelLines(s)
		for _, name := range opened.Good {
			verified := false
			for _, p := range pairs {
				for _, line := range lines {
					verified = verified || p.name == name && line.name == name && key(p.name, p.secret).Verify(opened.Text, []byte(line.sig))
				}
			}
			is(t, "whether the name "+brief(name)+" of "+brief(s)+" is verified", verified, true)
			good++
		}
	}
	if good < 300 {
		t.Errorf("good names were drawn %d times", good)
	}
}

// Each byte of the text is turned into each other one, taken out, told twice;
// the lines stay as they were.
func TestP8_8_EachByteOfTheTextTurned(t *testing.T) {
	pairs := []pair{logKey(), {"else", "x"}}
	for _, text := range []string{"\n", "hi\n", "a\n\nb\n", "hi\n\n", "mews log\n0\n" + emptyRoot + "\n"} {
		s, _ := note.Sign(text, keysOf(pairs...))
		rest := s[len(text):]
		for place := range len(text) {
			for c := range 256 {
				if byte(c) != text[place] {
					isNotGood(t, replaced(text, place, byte(c))+rest, pairs)
				}
			}
			isNotGood(t, text[:place]+text[place+1:]+rest, pairs)
			isNotGood(t, text[:place+1]+text[place:]+rest, pairs)
		}
	}
}

// isNotGood fails the test unless a note is refused by each of the keys, and by all.
func isNotGood(t *testing.T, s string, pairs []pair) {
	t.Helper()
	for choice := range 1 << len(pairs) {
		taken, _ := parted(pairs, choice)
		opened, e := note.Open(s, keysOf(taken...))
		if e == api.OK {
			t.Errorf("Open of %s with %s: %s", brief(s), brief(taken), brief(opened))
		}
	}
}

// A line of one text isn't good below another one, nor is one key's signature
// by another key's name and ID.
func TestP8_8_LinesOfOthers(t *testing.T) {
	k, other := logKey(), pair{"log", "t"}
	opensNot(t, "the line of another text", "hi\n\n"+k.line("ho\n"), keysOf(k), api.ErrSign)
	opensNot(t, "another key's signature", "hi\n\n"+lineOf("log", k.modelID()+other.modelSign("hi\n")), keysOf(k, other), api.ErrSign)
	opensNot(t, "another key's ID", "hi\n\n"+lineOf("log", other.modelID()+k.modelSign("hi\n")), keysOf(k), api.ErrKey)
	opensNot(t, "another key's ID, known", "hi\n\n"+lineOf("log", other.modelID()+k.modelSign("hi\n")), keysOf(k, other), api.ErrSign)
	opensNot(t, "another name", "hi\n\n"+lineOf("else", k.modelID()+k.modelSign("hi\n")), keysOf(k), api.ErrKey)
	opensNot(t, "a good one ahead of it", "hi\n\n"+other.line("hi\n")+k.line("ho\n"), keysOf(k, other), api.ErrSign)
}
