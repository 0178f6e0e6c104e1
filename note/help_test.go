package note_test

import (
	"bytes"
	"fmt"
	"slices"
	"strings"
	"testing"

	"mews/api"
	"mews/note"
)

// brief is how something is told where a test fails.
func brief(v any) string { return fmt.Sprintf("%.300s", fmt.Sprintf("%+q", v)) }

// is fails the test unless got is want.
func is[T comparable](t *testing.T, what string, got, want T) {
	t.Helper()
	if got != want {
		t.Errorf("%s: %s, not %s", what, brief(got), brief(want))
	}
}

// isError fails the test unless an error is the one that is asked.
func isError(t *testing.T, what string, got, want api.Errno) {
	t.Helper()
	if got != want {
		t.Errorf("%s: error %d, not %d", what, got, want)
	}
}

// isBytes fails the test unless got is want; nil and the empty list are the same.
func isBytes(t *testing.T, what string, got, want []byte) {
	t.Helper()
	if !bytes.Equal(got, want) {
		t.Errorf("%s: %.200x, not %.200x", what, got, want)
	}
}

// areNames fails the test unless got is want.
func areNames(t *testing.T, what string, got, want []string) {
	t.Helper()
	if !slices.Equal(got, want) {
		t.Errorf("%s: %s, not %s", what, brief(got), brief(want))
	}
}

// isOpened fails the test unless a note was opened so.
func isOpened(t *testing.T, what string, got note.Opened, e api.Errno, want note.Opened, wantE api.Errno) {
	t.Helper()
	isError(t, what, e, wantE)
	is(t, what+", the text", got.Text, want.Text)
	areNames(t, what+", the good ones", got.Good, want.Good)
	areNames(t, what+", the unknown ones", got.Unknown, want.Unknown)
}

// isHead fails the test unless a head was answered so.
func isHead(t *testing.T, what string, got note.Head, e api.Errno, want note.Head, wantE api.Errno) {
	t.Helper()
	isError(t, what, e, wantE)
	if got.Size != want.Size {
		t.Errorf("%s, the size: %d, not %d", what, got.Size, want.Size)
	}
	isBytes(t, what+", the root", got.Root, want.Root)
}

// pair is by what a key is made.
type pair struct{ name, secret string }

// key is a key that can be made.
func key(name, secret string) note.Key {
	k, e := note.NewKey(name, []byte(secret))
	if e != api.OK {
		panic(fmt.Sprintf("no key %q, %q: %d", name, secret, e))
	}
	return k
}

// keysOf is the keys of pairs.
func keysOf(pairs ...pair) []note.Key {
	var keys []note.Key
	for _, p := range pairs {
		keys = append(keys, key(p.name, p.secret))
	}
	return keys
}

// logKey is the key of the chapter's examples.
func logKey() pair { return pair{"log", "s"} }

// someKeys is so many keys with names of their own.
func someKeys(count int) []pair {
	var pairs []pair
	for i := range count {
		pairs = append(pairs, pair{fmt.Sprint("key/", i), fmt.Sprint("secret ", i)})
	}
	return pairs
}

// alike is two keys with one name and ID, and unlike secrets.
func alike() []pair { return []pair{{"log", "39347"}, {"log", "47567"}} }

// oneID is two keys with one ID, and unlike names.
func oneID() []pair { return []pair{{"k33378", "s"}, {"k64230", "s"}} }

// signs fails the test unless Sign answers so.
func signs(t *testing.T, what, text string, keys []note.Key, want string) {
	t.Helper()
	got, e := note.Sign(text, keys)
	isError(t, "Sign, "+what, e, api.OK)
	is(t, "Sign, "+what, got, want)
}

// signsNot fails the test unless Sign answers an error, and nothing beside it.
func signsNot(t *testing.T, what, text string, keys []note.Key, want api.Errno) {
	t.Helper()
	got, e := note.Sign(text, keys)
	isError(t, "Sign, "+what, e, want)
	is(t, "Sign, "+what, got, "")
}

// opens fails the test unless Open answers so.
func opens(t *testing.T, what, s string, keys []note.Key, want note.Opened) {
	t.Helper()
	got, e := note.Open(s, keys)
	isOpened(t, "Open, "+what, got, e, want, api.OK)
}

// opensNot fails the test unless Open answers an error, and nothing beside it.
func opensNot(t *testing.T, what, s string, keys []note.Key, want api.Errno) {
	t.Helper()
	got, e := note.Open(s, keys)
	isOpened(t, "Open, "+what, got, e, note.Opened{}, want)
}

// filled is a text of so many bytes, with lines in it.
func filled(size int) string {
	lines := strings.Repeat(strings.Repeat("a", 99)+"\n", size/100+1)
	return lines[len(lines)-size:]
}

// replaced is a text with another byte at a place.
func replaced(s string, place int, c byte) string {
	return s[:place] + string([]byte{c}) + s[place+1:]
}
