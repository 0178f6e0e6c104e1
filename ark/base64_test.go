package ark_test

import (
	"encoding/base64"
	"fmt"
	"math/rand"
	"strings"
	"testing"

	"mews/api"
	"mews/ark"
)

const signs = "ABCDEFGHIJKLMNOPQRSTUVWXYZabcdefghijklmnopqrstuvwxyz0123456789+/"

// reads fails the test unless FromBase64 answers the bytes.
func reads(t *testing.T, s, want string) {
	t.Helper()
	b, e := ark.FromBase64(s)
	is(t, fmt.Sprintf("FromBase64(%q), its error", s), e, api.OK)
	isBytes(t, fmt.Sprintf("FromBase64(%q)", s), b, []byte(want))
}

// readsNot fails the test unless FromBase64 answers ErrForm, and nothing beside it.
func readsNot(t *testing.T, s string) {
	t.Helper()
	b, e := ark.FromBase64(s)
	is(t, fmt.Sprintf("FromBase64(%q), its error", s), e, api.ErrForm)
	isBytes(t, fmt.Sprintf("FromBase64(%q)", s), b, nil)
}

// readsAsModel fails the test unless FromBase64 answers what the model does.
func readsAsModel(t *testing.T, s string) {
	t.Helper()
	if want, e := modelFromBase64(s); e == api.OK {
		reads(t, s, string(want))
	} else {
		readsNot(t, s)
	}
}

func TestP6_1_Base64OfKnownTexts(t *testing.T) {
	for text, want := range map[string]string{
		"": "", "f": "Zg==", "fo": "Zm8=", "foo": "Zm9v", "foob": "Zm9vYg==", "fooba": "Zm9vYmE=", "foobar": "Zm9vYmFy",
		"a": "YQ==", "ab": "YWI=", "abc": "YWJj", "\x00": "AA==", "\x00\x00": "AAA=", "\x00\x00\x00": "AAAA",
		"\xff": "/w==", "\xff\xff": "//8=", "\xff\xff\xff": "////", "\xfb": "+w==", "\xfb\xef": "++8=", "\xfb\xef\xbe": "++++", "\xff\xfe\xfd": "//79",
	} {
		is(t, fmt.Sprintf("Base64(%q)", text), ark.Base64([]byte(text)), want)
		reads(t, want, text)
	}
	is(t, "Base64 of nothing", ark.Base64(nil), "")
	all := make([]byte, 0, 48)
	for i := 0; i < 64; i += 4 {
		all = append(all, byte(i<<2|(i+1)>>4), byte((i+1)<<4|(i+2)>>2), byte((i+2)<<6|(i+3)))
	}
	is(t, "Base64 of the letters' numbers", ark.Base64(all), signs)
	reads(t, signs, string(all))
}

func TestP6_1_Base64OfEachLength(t *testing.T) {
	chance := rand.New(rand.NewSource(64))
	for count := range 400 {
		b := make([]byte, count)
		chance.Read(b)
		want := base64.StdEncoding.EncodeToString(b)
		is(t, fmt.Sprintf("Base64(%x)", b), ark.Base64(b), want)
		reads(t, want, string(b))
	}
	for one := range 256 {
		for other := range 256 {
			b := []byte{byte(one), byte(other)}
			is(t, fmt.Sprintf("Base64(%x)", b), ark.Base64(b), base64.StdEncoding.EncodeToString(b))
			is(t, fmt.Sprintf("Base64(%x)", b[:1]), ark.Base64(b[:1]), base64.StdEncoding.EncodeToString(b[:1]))
		}
	}
}

func TestP6_1_WrongBase64(t *testing.T) {
	for _, s := range []string{
		"YWJ=", "YW", "YWI", "Y", "=", "==", "===", "====", "A===", "=AAA", "A=AA", "AA=A", "A=A=", "A==A", "==AA", "YQ=", "YQ===", "YQ====", "YWI==", "YWJj=", "YWJj==", "YWJj====",
		"YQ==YQ==", "YWI=YWJj", "YWJjYQ==YWJj", "YWJjYQ=", "YWJjYW", "YWJjY", "YWJjYWJ", "Y-==", "Y_==", "-w==", "_w==", "YWJj\n", "\nYWJj", "YW\nJj", "YWJj\r\n", "YWJj ", " YWJj", "YW I", "YW J", "YWJ\x00",
		"YWJ\xff", "\xc3\x84JjYW", "YWJj,", "YWJ.", "YQ= =", "YQ=\n=", "YQ==\n", "Zm9vYg=\x00", "````", "@@@@", "[[[[", "{{{{", "::::", "....", "0,00", "YWJj====YWJj",
	} {
		readsNot(t, s)
		_, e := modelFromBase64(s)
		is(t, fmt.Sprintf("the model of FromBase64(%q)", s), e, api.ErrForm)
	}
}

func TestP6_1_SpareBits(t *testing.T) {
	one, two := "", ""
	for i := range len(signs) {
		if _, e := ark.FromBase64("YWJjY" + signs[i:i+1] + "=="); e == api.OK {
			one += signs[i : i+1]
		}
		if _, e := ark.FromBase64("YWJjYW" + signs[i:i+1] + "="); e == api.OK {
			two += signs[i : i+1]
		}
	}
	is(t, "the last letters of one byte", one, "AQgw")
	is(t, "the last letters of two bytes", two, "AEIMQUYcgkosw048")
}

func TestP6_1_EachByteAtEachPlace(t *testing.T) {
	for _, s := range []string{"YWJj", "YWJjZGVm", "YWJjZA==", "YWJjZGU="} {
		for place := range len(s) {
			for c := range 256 {
				readsAsModel(t, s[:place]+string([]byte{byte(c)})+s[place+1:])
				readsAsModel(t, s[:place]+string([]byte{byte(c)})+s[place:])
			}
			readsAsModel(t, s[:place])
			readsAsModel(t, s[place:])
			readsAsModel(t, s[:place]+"="+s[place+1:])
			readsAsModel(t, s[:place]+"=="+s[place:])
			readsAsModel(t, s[:place]+"===="+s[place:])
		}
	}
}

func TestP6_1_EachShortText(t *testing.T) {
	taken := 0
	for _, s := range texts("=AQEz/+\n", 4) {
		readsAsModel(t, s)
		readsAsModel(t, "Zm9v"+s)
		if _, e := ark.FromBase64(s); e == api.OK {
			taken++
		}
	}
	is(t, "whether some were taken", taken > 1000, true)
}

func TestP6_1_LongBase64(t *testing.T) {
	long := strings.Repeat("YWJj", 100000)
	reads(t, long, strings.Repeat("abc", 100000))
	readsNot(t, long+"=")
	readsNot(t, long+"====")
	readsNot(t, strings.Repeat("=", 100000))
}
