package note_test

import (
	"bytes"
	"fmt"
	"slices"
	"testing"

	"mews/api"
	"mews/note"
)

// The marks that lie behind lists, and that are written into answers.
const (
	roomByte   = 0xa5
	spoiltByte = 0x5a
)

// roomy is the list with spare room behind it, filled with a mark.
func roomy[T any](list []T, mark T) []T {
	whole := slices.Clone(list)
	for range 100 {
		whole = append(whole, mark)
	}
	return whole[:len(list)]
}

// whole is the list with what lies behind it.
func whole[T any](list []T) []T { return list[:cap(list)] }

// spoil writes into all the memory of a list.
func spoil[T any](list []T, mark T) {
	for i := range whole(list) {
		whole(list)[i] = mark
	}
}

func TestP8_6_SecretsHandedIn(t *testing.T) {
	for _, n := range []int{0, 1, 32, 64, 65} {
		given := bytes.Repeat([]byte("s"), n)
		secret := roomy(given, roomByte)
		before := bytes.Clone(whole(secret))
		k, e := note.NewKey("log", secret)
		is(t, "whether there is a key", e == api.OK, 1 <= n && n <= 64)
		isBytes(t, "the secret that was handed in", whole(secret), before)
		spoil(secret, spoiltByte)
		if e == api.OK {
			p := pair{"log", string(given)}
			is(t, "ID, the secret spoilt", k.ID(), idOf(p.modelID()))
			isBytes(t, "Sign, the secret spoilt", k.Sign("hi\n"), []byte(p.modelSign("hi\n")))
		}
	}
}

func TestP8_6_SignaturesHandedIn(t *testing.T) {
	k := key("log", "s")
	right := []byte(logKey().modelSign("hi\n"))
	for n := range 33 {
		// What lies behind the signature would make it whole.
		sig := roomy(right, roomByte)[:n]
		before := bytes.Clone(whole(sig))
		is(t, fmt.Sprint("Verify of ", n, " bytes"), k.Verify("hi\n", sig), n == 32)
		isBytes(t, "the signature that was handed in", whole(sig), before)
	}
}

// What lies behind the keys is not asked, and stays.
func TestP8_6_KeysHandedIn(t *testing.T) {
	mine, others := key("log", "s"), keysOf(someKeys(3)...)
	s := modelNote("hi\n", logKey())
	keys := roomy(others, mine)
	before := slices.Clone(whole(keys))
	opensNot(t, "the key behind the end", s, keys, api.ErrKey)
	signs(t, "a key behind the end", "hi\n", keys, modelNote("hi\n", someKeys(3)...))
	opens(t, "the key within", s, keys[:4], note.Opened{Text: "hi\n", Good: []string{"log"}})
	signsNot(t, "no key, one behind the end", "hi\n", keys[:0], api.ErrKey)
	opensNot(t, "no key, some behind the end", s, keys[:0], api.ErrKey)
	signs(t, "as many as may be, and more behind", "hi\n", roomy(keysOf(someKeys(8)...), mine), modelNote("hi\n", someKeys(8)...))
	if !slices.Equal(whole(keys), before) {
		t.Error("the keys that were handed in have changed")
	}
	opened, e := note.Open(modelNote("hi\n", someKeys(3)...), keys)
	spoil(keys, note.Key{})
	isOpened(t, "Open, the keys spoilt", opened, e, note.Opened{Text: "hi\n", Good: namesOf(someKeys(3))}, api.OK)
}

func TestP8_6_RootsHandedIn(t *testing.T) {
	given := []byte(sum("root"))
	want := modelFormatHead(note.Head{Size: 7, Root: given})
	root := roomy(given, roomByte)
	before := bytes.Clone(whole(root))
	got, e := note.FormatHead(note.Head{Size: 7, Root: root})
	isError(t, "FormatHead", e, api.OK)
	formatsNot(t, note.Head{Size: 7, Root: root[:31]})
	formatsNot(t, note.Head{Size: 7, Root: root[:33]})
	formatsNot(t, note.Head{Size: 7, Root: root[:0]})
	isBytes(t, "the root that was handed in", whole(root), before)
	spoil(root, spoiltByte)
	is(t, "FormatHead, the root spoilt", got, want)
}

// handedOut fails the test unless the lists that a call answers are each new memory.
func handedOut[T comparable](t *testing.T, what string, mark T, call func() [][]T) {
	t.Helper()
	first, second := call(), call()
	for k := range first {
		var others [][]T
		for _, list := range slices.Concat(first[:k], first[k+1:], second) {
			others = append(others, slices.Clone(whole(list)))
		}
		spoil(first[k], mark)
		_ = append(first[k], mark, mark)
		for i, list := range slices.Concat(first[:k], first[k+1:], second) {
			if !slices.Equal(whole(list), others[i]) {
				t.Errorf("%s: the list %d is not its own", what, k)
			}
		}
	}
	for k, list := range call() {
		if !slices.Equal(list, second[k]) {
			t.Errorf("%s: asked again, the list %d is another one", what, k)
		}
	}
}

func TestP8_6_ListsHandedOut(t *testing.T) {
	k := key("log", "s")
	handedOut(t, "Sign", spoiltByte, func() [][]byte { return [][]byte{k.Sign("hi\n"), k.Sign("hi\n"), k.Sign("")} })
	text := modelFormatHead(headOf(7))
	handedOut(t, "ParseHead", spoiltByte, func() [][]byte {
		h, e := note.ParseHead(text)
		isHead(t, "ParseHead", h, e, headOf(7), api.OK)
		return [][]byte{h.Root}
	})
	pairs := someKeys(8)
	s := modelNote("hi\n", pairs...)
	for n := 1; n <= 8; n++ {
		keys := keysOf(pairs[:n]...)
		handedOut(t, "Open", "spoilt", func() [][]string {
			opened, e := note.Open(s, keys)
			isOpened(t, "Open", opened, e, note.Opened{Text: "hi\n", Good: namesOf(pairs[:n]), Unknown: namesOf(pairs[n:])}, api.OK)
			return [][]string{opened.Good, opened.Unknown}
		})
	}
}

// A key is the same at each call, whatever was asked of it, or of others, between.
func TestP8_6_NothingIsKept(t *testing.T) {
	k := key("log", "s")
	want := k.Sign("hi\n")
	for _, p := range few() {
		other := key(p.name, p.secret)
		other.Sign("hi\n")
		note.Open(modelNote("ho\n", p), []note.Key{other, k})
		note.Sign("ho\n", []note.Key{k, other})
		k.Verify("ho\n", want)
		is(t, "Name, asked again", k.Name(), "log")
		is(t, "ID, asked again", k.ID(), 0x2e7a004a)
		isBytes(t, "Sign, asked again", k.Sign("hi\n"), want)
	}
	is(t, "a key made again", key("log", "s"), k)
}
