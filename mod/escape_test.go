package mod_test

import (
	"fmt"
	"math/rand"
	"strings"
	"testing"

	"mews/api"
)

var wrong = told{"", api.ErrForm}

func TestExamplesOfEscapes(t *testing.T) {
	is(t, "Escape", escape("a.b/Cd"), told{"a.b/!cd", api.OK})
	is(t, "Unescape", unescape("a.b/!cd"), told{"a.b/Cd", api.OK})
	is(t, "Unescape of a last !", unescape("a!"), wrong)
	is(t, "Unescape of an upper-case letter", unescape("C"), wrong)
}

func TestP3_7_EscapeOfTexts(t *testing.T) {
	for s, want := range map[string]string{
		"": "", "a": "a", "A": "!a", "Z": "!z", "aA": "a!a", "AA": "!a!a", "ABCxyz": "!a!b!cxyz", "a.b/C-D_~+ \x00\x7f": "a.b/!c-!d_~+ \x00\x7f",
		"@[`{": "@[`{", "v1.0.0-RC": "v1.0.0-!r!c",
	} {
		is(t, fmt.Sprintf("Escape(%q)", s), escape(s), told{want, api.OK})
		is(t, fmt.Sprintf("Unescape(%q)", want), unescape(want), told{s, api.OK})
	}
	for _, s := range []string{"!", "a!", "!a", "A!", "a!b", "\x80", "a\x80", "\xff", "é", "Aé", "!\xff"} {
		is(t, fmt.Sprintf("Escape(%q)", s), escape(s), wrong)
	}
	for _, s := range []string{"!", "a!", "!!", "!!a", "!a!", "!1", "!.", "!A", "A", "aB", "!aB", "! ", "!`", "!{", "!\x00", "\x80", "a\xff", "!\xe1", "é", "!é"} {
		is(t, fmt.Sprintf("Unescape(%q)", s), unescape(s), wrong)
	}
	long := strings.Repeat("aB", 1<<16)
	is(t, "Escape of a long text", escape(long) == told{strings.Repeat("a!b", 1<<16), api.OK}, true)
}

func TestP3_7_EveryByte(t *testing.T) {
	for c := range 256 {
		one := string([]byte{byte(c)})
		isUpper, isLower := 'A' <= c && c <= 'Z', 'a' <= c && c <= 'z'
		escaped, unescaped, marked := told{one, api.OK}, told{one, api.OK}, wrong
		switch {
		case c >= 0x80 || c == '!':
			escaped, unescaped = wrong, wrong
		case isUpper:
			escaped, unescaped = told{"!" + strings.ToLower(one), api.OK}, wrong
		case isLower:
			marked = told{strings.ToUpper(one), api.OK}
		}
		is(t, fmt.Sprintf("Escape(%q)", one), escape(one), escaped)
		is(t, fmt.Sprintf("Unescape(%q)", one), unescape(one), unescaped)
		is(t, fmt.Sprintf("Unescape(%q)", "!"+one), unescape("!"+one), marked)
	}
}

func TestP3_11_UnescapeTurnsEscapeRound(t *testing.T) {
	chance := rand.New(rand.NewSource(3))
	from := map[string]string{}
	for range 20000 {
		s := randomText(chance, "aAbB!.1\x7f\x80", 5)
		escaped := escape(s)
		is(t, fmt.Sprintf("Escape(%q) is one", s), escaped.e == api.OK, !strings.ContainsAny(s, "!\x80"))
		if escaped.e == api.OK {
			is(t, fmt.Sprintf("Unescape of Escape(%q)", s), unescape(escaped.text), told{s, api.OK})
			folded := strings.ToLower(escaped.text)
			if other, there := from[folded]; there {
				is(t, "what is escaped as "+folded, s, other)
			}
			from[folded] = s
		}
		if plain := unescape(s); plain.e == api.OK {
			is(t, fmt.Sprintf("Escape of Unescape(%q)", s), escape(plain.text), told{s, api.OK})
		}
	}
}
