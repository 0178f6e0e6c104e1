package note_test

import (
	"fmt"
	"math/rand"
	"slices"
	"strings"
	"testing"

	"mews/api"
	"mews/note"
)

func TestP8_3_Examples(t *testing.T) {
	k := keysOf(logKey())
	signs(t, "the example", "hi\n", k, "hi\n\n\u2014 log LnoASqYqhKukaglJ6n0WaLbpDlcK7McFJZwOCy4mo3oUzFvO\n")
	signsNot(t, "a text without a newline", "hi", k, api.ErrForm)
	signsNot(t, "no key", "hi\n", nil, api.ErrKey)
	signsNot(t, "an empty list of keys", "hi\n", []note.Key{}, api.ErrKey)
}

func TestP8_3_Texts(t *testing.T) {
	k := keysOf(logKey())
	for _, text := range []string{
		"\n", "\n\n", "\n\n\n", "a\n", " \n", "a\n\nb\n", "a\n\n", "\na\n", "~\n", "hi\n\n\nyou\n",
		"- log LnoASqYq\n", "a\n\n- log LnoASqYqhKukaglJ6n0WaLbpDlcK7McFJZwOCy4mo3oUzFvO\n", "mews log\n0\n",
	} {
		signs(t, brief(text), text, k, modelNote(text, logKey()))
	}
	for _, text := range []string{
		"", "a", "\na", "a\n\nb", "a\r\n", "a\n\r", "a\n ", "\u2014\n", "a\n\n" + logKey().line("a\n"), logKey().line("a\n"),
		modelNote("hi\n", logKey()), "a\x00\n", "a\t\n", "\x7f\n", "\x80\n", "\u00e9\n", "\xff\n", "a\n\x00", "\x1f\n",
	} {
		signsNot(t, brief(text), text, k, api.ErrForm)
	}
}

// Each byte is tried alone, and first, within and last.
func TestP8_3_BytesOfTexts(t *testing.T) {
	k := keysOf(logKey())
	for c := range 256 {
		one := string([]byte{byte(c)})
		for _, text := range []string{one, one + "\n", one + "a\n", "a" + one + "b\n", "a\n" + one + "\n", "ab\n" + one} {
			if want, e := modelSign(text, []pair{logKey()}); e == api.OK {
				signs(t, brief(text), text, k, want)
			} else {
				signsNot(t, brief(text), text, k, api.ErrForm)
			}
		}
		text := "a" + one + "b\n"
		_, e := note.Sign(text, k)
		is(t, "whether there may be "+brief(one), e == api.OK, c == '\n' || 0x20 <= c && c <= 0x7e)
	}
}

func TestP8_3_LongTexts(t *testing.T) {
	k := keysOf(logKey())
	for _, size := range []int{1, 2, api.MaxText - 1, api.MaxText} {
		signs(t, fmt.Sprint("a text of ", size), filled(size), k, modelNote(filled(size), logKey()))
	}
	for _, size := range []int{api.MaxText + 1, api.MaxText + 2, 2 * api.MaxText, 1 << 20} {
		signsNot(t, fmt.Sprint("a text of ", size), filled(size), k, api.ErrLong)
	}
	signs(t, "newlines alone", strings.Repeat("\n", api.MaxText), k, modelNote(strings.Repeat("\n", api.MaxText), logKey()))
	signsNot(t, "newlines alone", strings.Repeat("\n", api.MaxText+1), k, api.ErrLong)
}

// A note of the greatest text, the longest names and as many keys as may be can be opened.
func TestP8_3_TheLongestNote(t *testing.T) {
	var pairs []pair
	for i := range api.MaxKeys {
		pairs = append(pairs, pair{strings.Repeat(fmt.Sprint(i), 50), strings.Repeat("s", 64)})
	}
	text := filled(api.MaxText)
	signs(t, "the longest note", text, keysOf(pairs...), modelNote(text, pairs...))
	opensAsModel(t, "the longest note", modelNote(text, pairs...), pairs)
}

func TestP8_3_HowManyKeys(t *testing.T) {
	for n := 1; n <= api.MaxKeys; n++ {
		signs(t, fmt.Sprint(n, " keys"), "hi\n", keysOf(someKeys(n)...), modelNote("hi\n", someKeys(n)...))
	}
	for _, n := range []int{api.MaxKeys + 1, api.MaxKeys + 2, 2 * api.MaxKeys, 256, 5000} {
		signsNot(t, fmt.Sprint(n, " keys"), "hi\n", keysOf(someKeys(n)...), api.ErrMany)
	}
}

func TestP8_3_InTheirOrder(t *testing.T) {
	pairs := someKeys(5)
	slices.Reverse(pairs)
	signs(t, "keys the other way round", "hi\n", keysOf(pairs...), modelNote("hi\n", pairs...))
	chance := rand.New(rand.NewSource(83))
	for range 100 {
		chance.Shuffle(len(pairs), func(i, k int) { pairs[i], pairs[k] = pairs[k], pairs[i] })
		signs(t, "keys in any order", "hi\n", keysOf(pairs...), modelNote("hi\n", pairs...))
	}
}

// Wherever the two stand, and whatever stands beside them.
func TestP8_3_TwoKeysWithOneNameAndID(t *testing.T) {
	for n := 2; n <= 12; n++ {
		for k := 1; k < n; k++ {
			for i := range k {
				pairs := someKeys(n)
				pairs[k] = pairs[i]
				signsNot(t, fmt.Sprint("of ", n, " the keys ", i, " and ", k, " the same"), "hi\n", keysOf(pairs...), api.ErrKey)
			}
		}
	}
	pairs := someKeys(5000)
	signsNot(t, "the last two of many the same", "hi\n", keysOf(append(pairs, pairs[4999])...), api.ErrKey)
	signsNot(t, "unlike secrets with one ID", "hi\n", keysOf(alike()...), api.ErrKey)
}

func TestP8_3_KeysThatAreHalfTheSame(t *testing.T) {
	for _, pairs := range [][]pair{
		{{"log", "s"}, {"log", "t"}},
		{{"log", "s"}, {"else", "s"}},
		{{"log", "s"}, {"Log", "s"}, {"lo", "s"}, {"log/", "s"}},
		oneID(),
	} {
		signs(t, brief(pairs), "hi\n", keysOf(pairs...), modelNote("hi\n", pairs...))
	}
}

func TestP8_3_OrderOfErrors(t *testing.T) {
	texts := []struct {
		what, text string
		e          api.Errno
	}{
		{"no newline, and long", strings.Repeat("a", api.MaxText+1), api.ErrForm},
		{"a wrong byte, and long", filled(api.MaxText+1) + "\x7f\n", api.ErrForm},
		{"no newline", "hi", api.ErrForm},
		{"empty", "", api.ErrForm},
		{"long", filled(api.MaxText + 1), api.ErrLong},
		{"a right text", "hi\n", api.OK},
	}
	nine := keysOf(someKeys(9)...)
	keys := []struct {
		what string
		keys []note.Key
		e    api.Errno
	}{
		{"no key", nil, api.ErrKey},
		{"two the same", []note.Key{nine[0], nine[0]}, api.ErrKey},
		{"nine, two the same", append(nine[:8:8], nine[0]), api.ErrKey},
		{"nine the same", slices.Repeat(nine[:1], 9), api.ErrKey},
		{"one that nobody made", []note.Key{{}}, api.ErrKey},
		{"nine", nine, api.ErrMany},
	}
	for _, x := range texts {
		for _, y := range keys {
			e := x.e
			if e == api.OK {
				e = y.e
			}
			signsNot(t, x.what+"; "+y.what, x.text, y.keys, e)
		}
		if x.e != api.OK {
			signsNot(t, x.what+"; a right key", x.text, nine[:1], x.e)
		}
	}
}

func TestP8_3_AsTheModelSigns(t *testing.T) {
	chance := rand.New(rand.NewSource(84))
	found := map[api.Errno]int{}
	for range 4000 {
		text, pairs := drawText(chance), drawFew(chance, 5)
		if chance.Intn(4) == 0 {
			text = spoilt(chance, text)
		}
		want, wantE := modelSign(text, pairs)
		got, e := note.Sign(text, keysOf(pairs...))
		isError(t, "Sign of "+brief(text), e, wantE)
		is(t, "Sign of "+brief(text), got, want)
		found[wantE]++
	}
	for _, e := range []api.Errno{api.OK, api.ErrForm, api.ErrKey} {
		if found[e] < 100 {
			t.Errorf("Sign's error %d was drawn %d times", e, found[e])
		}
	}
}
