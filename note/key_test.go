package note_test

import (
	"fmt"
	"math/rand"
	"strings"
	"testing"

	"mews/api"
	"mews/ark"
	"mews/note"
)

// isKey fails the test unless a key can be made so, and is the one that it should be.
func isKey(t *testing.T, p pair) {
	t.Helper()
	what := "the key " + brief(p)
	k, e := note.NewKey(p.name, []byte(p.secret))
	isError(t, what, e, api.OK)
	is(t, what+", its name", k.Name(), p.name)
	is(t, what+", its ID", k.ID(), idOf(p.modelID()))
	isBytes(t, what+", its signature", k.Sign("hi\n"), []byte(p.modelSign("hi\n")))
}

// isNoKey fails the test unless no key can be made so.
func isNoKey(t *testing.T, p pair) {
	t.Helper()
	k, e := note.NewKey(p.name, []byte(p.secret))
	isError(t, "the key "+brief(p), e, api.ErrKey)
	is(t, "the key "+brief(p), k, note.Key{})
}

func TestP8_1_Examples(t *testing.T) {
	isNoKey(t, pair{"", "s"})
	isNoKey(t, pair{"a b", "s"})
	isNoKey(t, pair{"log", ""})
	_, e := note.NewKey("log", nil)
	isError(t, "a key with no secret", e, api.ErrKey)
	k := key("log", "s")
	is(t, "Name", k.Name(), "log")
	is(t, "ID", k.ID(), 0x2e7a004a)
	is(t, "Sign", ark.Hex(k.Sign("hi\n")), "a62a84aba46a0949ea7d1668b6e90e570aecc705259c0e0b2e26a37a14cc5bce")
}

func TestP8_1_LengthsOfNames(t *testing.T) {
	for n := range 60 {
		if p := (pair{strings.Repeat("n", n), "s"}); 1 <= n && n <= 50 {
			isKey(t, p)
		} else {
			isNoKey(t, p)
		}
	}
	isNoKey(t, pair{strings.Repeat("n", 256+1), "s"})
	isNoKey(t, pair{strings.Repeat("n", 1<<20), "s"})
}

// Each byte is tried alone, and first, within and last.
func TestP8_1_BytesOfNames(t *testing.T) {
	for c := range 256 {
		one := string([]byte{byte(c)})
		for _, name := range []string{one, one + "ab", "a" + one + "b", "ab" + one, strings.Repeat("a", 49) + one} {
			if p := (pair{name, "s"}); 0x21 <= c && c <= 0x7e && c != '+' {
				isKey(t, p)
			} else {
				isNoKey(t, p)
			}
		}
	}
	for _, name := range []string{"\u00e9", "a\u2014", "log\n", "\nlog", " log", "log ", "a\tb", "+", "a+", "\x00", "\xff"} {
		isNoKey(t, pair{name, "s"})
	}
	for _, name := range []string{"!", "~", "sum.golang.org", "a=b", "a/b", "-", "\"", "*", ","} {
		isKey(t, pair{name, "s"})
	}
}

func TestP8_1_LengthsOfSecrets(t *testing.T) {
	for n := range 80 {
		if p := (pair{"log", strings.Repeat("s", n)}); 1 <= n && n <= 64 {
			isKey(t, p)
		} else {
			isNoKey(t, p)
		}
	}
	isNoKey(t, pair{"log", strings.Repeat("s", 256+1)})
	isNoKey(t, pair{"", ""})
	isNoKey(t, pair{strings.Repeat("n", 51), strings.Repeat("s", 65)})
}

func TestP8_1_BytesOfSecrets(t *testing.T) {
	for c := range 256 {
		isKey(t, pair{"log", string([]byte{byte(c)})})
		isKey(t, pair{"log", strings.Repeat(string([]byte{byte(c)}), 64)})
	}
	isKey(t, pair{"log", sum("s")})
}

// The high byte of an ID comes first, be it 0 or above 7F (hex).
func TestP8_1_IDs(t *testing.T) {
	is(t, "an ID with zeros ahead", key("log", "32801").ID(), 0x0000f3e0)
	is(t, "a great ID", key("log", "1").ID(), 0xd14d790d)
	is(t, "an ID that two keys have", key("log", "39347").ID(), 0xe8ab02ca)
	is(t, "an ID that two keys have", key("log", "47567").ID(), 0xe8ab02ca)
	is(t, "an ID that two names have", key("k33378", "s").ID(), 0xb3dd053c)
	is(t, "an ID that two names have", key("k64230", "s").ID(), 0xb3dd053c)
}

func TestP8_1_AsTheModelSigns(t *testing.T) {
	chance := rand.New(rand.NewSource(81))
	for range 2000 {
		p := drawPair(chance)
		isKey(t, p)
		k := key(p.name, p.secret)
		text := drawLoose(chance)
		sig := k.Sign(text)
		isBytes(t, "Sign of "+brief(text), sig, []byte(p.modelSign(text)))
		is(t, "Verify of "+brief(text), k.Verify(text, sig), true)
		is(t, "Verify of another text", k.Verify(text+"x", sig), false)
	}
}

// A key signs any text, be it one of a note or not.
func TestP8_1_AnyText(t *testing.T) {
	k := key("log", "s")
	for _, text := range []string{"", "\n", "hi", "hi\n", "\x00", "\xff\xfe", "\u2014 log", filled(api.MaxText + 1), strings.Repeat("\x00", 1<<18)} {
		isBytes(t, "Sign of "+brief(text), k.Sign(text), []byte(logKey().modelSign(text)))
		is(t, "Verify of "+brief(text), k.Verify(text, k.Sign(text)), true)
	}
}

func TestP8_1_Verify(t *testing.T) {
	k := key("log", "s")
	sig := k.Sign("hi\n")
	for bit := range 8 * len(sig) {
		wrong := []byte(string(sig))
		wrong[bit/8] ^= 1 << (bit % 8)
		is(t, fmt.Sprint("Verify with the bit ", bit, " turned"), k.Verify("hi\n", wrong), false)
	}
	for n := range len(sig) {
		is(t, fmt.Sprint("Verify of the first ", n), k.Verify("hi\n", sig[:n]), false)
		is(t, fmt.Sprint("Verify of the last ", n), k.Verify("hi\n", sig[len(sig)-n:]), false)
	}
	for _, c := range []byte{0, 1, 0xff, sig[0], sig[31]} {
		is(t, "Verify of more", k.Verify("hi\n", append([]byte(string(sig)), c)), false)
		is(t, "Verify of more ahead", k.Verify("hi\n", append([]byte{c}, sig...)), false)
	}
	is(t, "Verify of none", k.Verify("hi\n", nil), false)
	is(t, "Verify of the empty list", k.Verify("hi\n", []byte{}), false)
	is(t, "Verify of 32 zeros", k.Verify("hi\n", make([]byte, 32)), false)
	for _, text := range []string{"", "hi", "hi\n\n", "Hi\n", "hI\n", "ho\n", " hi\n", "hi\r\n", "hi\n\x00"} {
		is(t, "Verify of "+brief(text), k.Verify(text, sig), false)
	}
}

func TestP8_1_OtherKeys(t *testing.T) {
	sig := key("log", "s").Sign("hi\n")
	for _, secret := range []string{"t", "S", "ss", "s\x00", "\x00s", "s ", sum("s")} {
		is(t, "Verify by the secret "+brief(secret), key("log", secret).Verify("hi\n", sig), false)
	}
	is(t, "Verify by another name", key("else", "s").Verify("hi\n", sig), true)
	for _, p := range alike() {
		for _, q := range alike() {
			is(t, "Verify by keys of one ID", key(p.name, p.secret).Verify("hi\n", []byte(q.modelSign("hi\n"))), p == q)
		}
	}
}

// A key that nobody made is as one with an empty name and an empty secret would
// be; no note has a line of it.
func TestP8_1_AKeyThatNobodyMade(t *testing.T) {
	var k note.Key
	var p pair
	is(t, "its name", k.Name(), "")
	is(t, "its ID", k.ID(), idOf(p.modelID()))
	for _, text := range []string{"", "hi\n", "\xff"} {
		isBytes(t, "its signature", k.Sign(text), []byte(p.modelSign(text)))
		is(t, "Verify", k.Verify(text, k.Sign(text)), true)
		is(t, "Verify of none", k.Verify(text, nil), false)
		is(t, "Verify of a key's", k.Verify(text, key("log", "s").Sign(text)), false)
	}
	signsNot(t, "with it alone", "hi\n", []note.Key{k}, api.ErrKey)
	signsNot(t, "with it last", "hi\n", []note.Key{key("log", "s"), k}, api.ErrKey)
	signsNot(t, "with it first", "hi\n", []note.Key{k, key("log", "s")}, api.ErrKey)
	signsNot(t, "with it behind too many", "hi\n", append(keysOf(someKeys(9)...), k), api.ErrKey)
	signsNot(t, "with it and a wrong text", "hi", []note.Key{k}, api.ErrForm)
	signsNot(t, "with it and a long text", filled(api.MaxText+1), []note.Key{k}, api.ErrLong)
	good := modelNote("hi\n", logKey())
	opensNot(t, "with it alone", good, []note.Key{k}, api.ErrKey)
	opens(t, "with it first", good, []note.Key{k, key("log", "s")}, note.Opened{Text: "hi\n", Good: []string{"log"}})
	opensNot(t, "a line with its name", "hi\n\n"+p.line("hi\n"), []note.Key{k}, api.ErrForm)
}
