package sumdb_test

import (
	"bytes"
	"encoding/base64"
	"fmt"
	"strings"
	"testing"

	"mews/api"
	"mews/net"
	"mews/note"
)

// Of one log the longer head is the client's.
func TestP12_3_TakesItsLog(t *testing.T) {
	const count = 21
	b := plain(t, count)
	n := web(t, b, upTo(count)...)
	for m := range count + 1 {
		for size := range count + 1 {
			takes(t, fmt.Sprint(m, " and ", size), client(t, n, b.head(m)), b.head(size), api.OK, b.head(max(m, size)))
		}
	}
}

// One client takes heads of one log in any order, and never a shorter one.
func TestP12_3_NeverFalls(t *testing.T) {
	b := plain(t, 17)
	c := client(t, web(t, b, upTo(17)...), noHead())
	greatest := 0
	for _, size := range []int{0, 3, 1, 3, 4, 2, 0, 11, 4, 11, 10, 16, 17, 1, 17, 16} {
		greatest = max(greatest, size)
		takes(t, fmt.Sprint(size), c, b.head(size), api.OK, b.head(greatest))
	}
}

// isTaken tells whether a client that has the one head takes the other one, if
// the tiles are a book's: that the longer one goes on from the shorter.
func isTaken(tiles *book, a, b note.Head) bool {
	if a.Size > b.Size {
		a, b = b, a
	}
	switch a.Size {
	case 0:
		return true
	case b.Size:
		return bytes.Equal(a.Root, b.Root)
	}
	return bytes.Equal(tiles.head(a.Size).Root, a.Root) && bytes.Equal(tiles.head(b.Size).Root, b.Root)
}

// Two logs that have their first records in common, the tiles of the one or the other.
func TestP12_3_Forks(t *testing.T) {
	const count = 9
	taken, refused := 0, 0
	for common := range count + 1 {
		books := []*book{plain(t, count), newBook(t, count, common, "fork")}
		for _, tiles := range books {
			n := web(t, tiles, upTo(count)...)
			for m := range count + 1 {
				for size := range count + 1 {
					for _, comes := range books {
						what := fmt.Sprint(m, " and ", size, ", ", common, " in common")
						had, h := books[0].head(m), comes.head(size)
						if isTaken(tiles, had, h) {
							taken++
							takes(t, what, client(t, n, had), h, api.OK, []note.Head{had, h}[min(1, max(0, size-m))])
						} else {
							refused++
							takes(t, what, client(t, n, had), h, api.ErrFork, had)
						}
					}
				}
			}
		}
	}
	is(t, "whether both were met", taken > 500 && refused > 500, true)
}

// A root that is no log's is refused at each size but of a client that knows of
// no record: that one takes what comes.
func TestP12_3_StrangeRoots(t *testing.T) {
	b := plain(t, 9)
	n := web(t, b, upTo(9)...)
	strange := []([]byte){make([]byte, 32), bytes.Repeat([]byte{0xff}, 32), []byte(modelRoot(nil))}
	for m := range 10 {
		for size := 1; size <= 9; size++ {
			near := b.head(size).Root
			near[31] ^= 1
			for _, root := range append(strange, near, b.head(size-1).Root) {
				what := fmt.Sprint(m, " and ", size)
				h := note.Head{Size: size, Root: root}
				if m == 0 {
					takes(t, what, client(t, n, noHead()), h, api.OK, h)
				} else {
					takes(t, what, client(t, n, b.head(m)), h, api.ErrFork, b.head(m))
				}
			}
		}
	}
}

// What New refuses Take refuses, ahead of asking for anything.
func TestP12_3_NoHeads(t *testing.T) {
	b := plain(t, 9)
	n := web(t, b, 9)
	for _, m := range []int{0, 9} {
		for _, x := range triedHeads() {
			if !x.good {
				takes(t, tellHead(x.h), client(t, n, b.head(m)), x.h, api.ErrForm, b.head(m))
			}
		}
	}
	is(t, "Total", n.Total(), 0)
}

// No tile is asked for where sizes are the same, or one of them is 0.
func TestP12_3_NoTilesNeeded(t *testing.T) {
	b, other := plain(t, 9), evil(t, 9)
	n, e := net.New(nil, nil)
	done(t, e)
	takes(t, "the same", client(t, n, b.head(9)), b.head(9), api.OK, b.head(9))
	takes(t, "another one", client(t, n, b.head(9)), other.head(9), api.ErrFork, b.head(9))
	takes(t, "none", client(t, n, b.head(9)), noHead(), api.OK, b.head(9))
	takes(t, "the first", client(t, n, noHead()), b.head(9), api.OK, b.head(9))
	takes(t, "none behind none", client(t, n, noHead()), noHead(), api.OK, noHead())
	is(t, "Total", n.Total(), 0)
}

// badTile is what may befall a tile's request, and what comes of it.
type badTile struct {
	what  string
	fault func(page string) net.Fault
	want  api.Errno
}

// badTiles is faults of tiles that are never passed over.
func badTiles() []badTile {
	plainly := func(f net.Fault) func(string) net.Fault { return func(string) net.Fault { return f } }
	return []badTile{
		{"missing", plainly(gone()), api.ErrNone},
		{"lost", plainly(lost()), api.ErrNet},
		{"busy", plainly(busy()), api.ErrNet},
		{"late", plainly(late(2)), api.ErrNet},
		{"empty", plainly(cut(0)), api.ErrReply},
		{"too short by a byte", func(page string) net.Fault { return cut(len(page) - 1) }, api.ErrReply},
		{"too short by a hash", func(page string) net.Fault { return cut(len(page) - 32) }, api.ErrReply},
		{"too long by a byte", func(page string) net.Fault { return forged(page + "\x00") }, api.ErrReply},
		{"too long by a hash", func(page string) net.Fault { return forged(page + page[:32]) }, api.ErrReply},
		{"twice as long", func(page string) net.Fault { return forged(page + page) }, api.ErrReply},
		{"longer than may be", plainly(forged(strings.Repeat("x", usual.Budget+1))), api.ErrBudget},
		{"as long as may be", plainly(forged(strings.Repeat("x", usual.Budget))), api.ErrReply},
	}
}

// textsOf is a book's pages by their URLs.
func textsOf(t *testing.T, b *book, sizes ...int) map[string]string {
	t.Helper()
	texts := map[string]string{}
	for _, p := range modelPages(t, base, b, sizes) {
		texts[p.URL] = string(p.Data)
	}
	return texts
}

// Each tile that a growth needs, at fault in each way.
func TestP12_3_BadTiles(t *testing.T) {
	const count = 21
	b := plain(t, count)
	texts := textsOf(t, b, upTo(count)...)
	n := web(t, b, upTo(count)...)
	for m := 1; m <= count; m++ {
		for _, size := range []int{1, 2, 3, 4, 5, 8, 11, 16, 20, 21} {
			watch := since(n)
			takes(t, "honest", client(t, n, b.head(m)), b.head(size), api.OK, b.head(max(m, size)))
			needed := watch()
			is(t, "whether tiles are needed", len(needed) > 0, m != size)
			for _, url := range needed {
				for _, x := range badTiles() {
					befall(t, n, url, x.fault(texts[url]))
					takes(t, fmt.Sprint(m, " and ", size, ", ", url, " ", x.what), client(t, n, b.head(m)), b.head(size), x.want, b.head(m))
				}
			}
		}
	}
}

// Tiles of another log prove nothing.
func TestP12_3_OtherTiles(t *testing.T) {
	b, other := plain(t, 21), evil(t, 21)
	texts := textsOf(t, other, upTo(21)...)
	n := web(t, b, upTo(21)...)
	for m := 1; m <= 21; m++ {
		for size := 1; size <= 21; size++ {
			if m == size {
				continue
			}
			watch := since(n)
			takes(t, "honest", client(t, n, b.head(m)), b.head(size), api.OK, b.head(max(m, size)))
			for _, url := range watch() {
				befall(t, n, url, forged(texts[url]))
				takes(t, fmt.Sprint(m, " and ", size, ", ", url, " of another log"), client(t, n, b.head(m)), b.head(size), api.ErrFork, b.head(m))
			}
		}
	}
}

// triedNote is a note, and what comes of it.
type triedNote struct {
	what, signed string
	want         api.Errno
}

// triedNotes is notes that are refused, of a log's head that a client would take.
func triedNotes(t *testing.T, h note.Head) []triedNote {
	k := key(t)
	text := headText(h)
	good := signedText(t, text, k)
	line := good[len(text)+1:]
	var others []note.Key
	for i := range 7 {
		others = append(others, newKey(t, "other", fmt.Sprint(i)))
	}
	many := signedText(t, text, append(others, k)...)
	root := base64.StdEncoding.EncodeToString(h.Root)
	zero := note.Head{Size: 0, Root: h.Root}
	l := []triedNote{
		{"no note", "note", api.ErrSign},
		{"not signed", text, api.ErrSign},
		{"not signed, an empty line", text + "\n", api.ErrSign},
		{"not signed, no head", "hi\n", api.ErrSign},
		{"a line alone", line, api.ErrSign},
		{"signed by another key", signedText(t, text, newKey(t, "gol", "s")), api.ErrSign},
		{"signed by another key of that name", signedText(t, text, newKey(t, "log", "S")), api.ErrSign},
		{"signed by others", signedText(t, text, others...), api.ErrSign},
		{"signed twice", good + line, api.ErrSign},
		{"signed by too many", many + line, api.ErrSign},
		{"another text's signature", strings.Replace(good, "mews log", "mews Log", 1), api.ErrSign},
		{"something behind it", good + "x", api.ErrSign},
		{"an empty line behind it", good + "\n", api.ErrSign},
		{"something ahead of it", "\n" + good, api.ErrSign},
		{"too long", strings.Repeat("x", 2*api.MaxText) + good, api.ErrSign},
		{"a size below 0, not signed", strings.Replace(good, "\n", "\n-", 1), api.ErrSign},
		{"a head of no record with another root", signedText(t, headText(zero), k), api.ErrForm},
		{"a head of no record with another root, by others, too", signedText(t, headText(zero), others[0], k), api.ErrForm},
	}
	for _, text := range []string{
		"hi\n", "\n", "mews log\n", "mews log\n9\n", text + "x\n", text + "\n", "\n" + text, "x" + text, strings.ToUpper(text),
		"mews log\n09\n" + root + "\n", "mews log\n-1\n" + root + "\n", "mews log\n+9\n" + root + "\n", "mews log\n1048577\n" + root + "\n", "mews log\n\n" + root + "\n",
		"mews log\n18446744073709551617\n" + root + "\n", "mews log\n9\n" + root[:43] + "\n", "mews log\n9\n" + root[4:] + "\n", "mews log\n9\nAAAA" + root + "\n",
		"mews log\n9\n" + base64.StdEncoding.EncodeToString(h.Root[:31]) + "\n", "mews log\n9\n" + base64.StdEncoding.EncodeToString(append(h.Root, 0)) + "\n",
	} {
		l = append(l, triedNote{brief(text) + ", signed", signedText(t, text, k), api.ErrReply})
	}
	return l
}

// Whatever note is refused, nothing stays of it: the next one is taken as if it
// had been the first.
func TestP12_3_WrongNotes(t *testing.T) {
	b := plain(t, 9)
	n := web(t, b, 4, 9)
	good := b.noteOf(t, 9)
	for _, m := range []int{0, 4, 9} {
		for _, x := range triedNotes(t, b.head(9)) {
			c := client(t, n, b.head(m))
			lay(t, n, latestURL, x.signed, lookupURL(8), lookupText("8", b.texts[8], x.signed))
			watch := since(n)
			latestNot(t, x.what, c, x.want, b.head(m))
			looksUpNot(t, x.what, c, modOf(8), x.want, b.head(m))
			requested(t, x.what, watch(), latestURL, lookupURL(8))
			lay(t, n, latestURL, good)
			latest(t, "behind "+x.what, c, b.head(9), b.head(9))
		}
	}
}

// No note is good of which a byte is another one, or that ends too early.
func TestP12_3_NotesTurned(t *testing.T) {
	b := plain(t, 9)
	n := web(t, b, 4, 9)
	good := b.noteOf(t, 9)
	c := client(t, n, b.head(4))
	for i := range len(good) {
		for _, bit := range []byte{1, 0x20, 0x80} {
			bad := good[:i] + string([]byte{good[i] ^ bit}) + good[i+1:]
			lay(t, n, latestURL, bad, lookupURL(8), lookupText("8", b.texts[8], bad))
			latestNot(t, fmt.Sprint("turned at ", i), c, api.ErrSign, b.head(4))
			looksUpNot(t, fmt.Sprint("turned at ", i), c, modOf(8), api.ErrSign, b.head(4))
		}
		lay(t, n, latestURL, good[:i])
		latestNot(t, fmt.Sprint("cut at ", i), c, api.ErrSign, b.head(4))
		if i > 0 {
			lay(t, n, lookupURL(8), lookupText("8", b.texts[8], good[:i]))
			looksUpNot(t, fmt.Sprint("cut at ", i), c, modOf(8), api.ErrSign, b.head(4))
		}
	}
}

// That others have signed, too, is no fault.
func TestP12_3_SignedByMore(t *testing.T) {
	b := plain(t, 9)
	n := web(t, b, 4, 9)
	text := headText(b.head(9))
	keys := []note.Key{newKey(t, "a", "s"), newKey(t, "log", "other"), key(t), newKey(t, "z", "s")}
	for _, signed := range []string{signedText(t, text, keys...), signedText(t, text, keys[1:]...), signedText(t, text, keys[1], keys[0], keys[3], keys[2])} {
		lay(t, n, latestURL, signed, lookupURL(8), lookupText("8", b.texts[8], signed))
		latest(t, "signed by more", client(t, n, b.head(4)), b.head(9), b.head(9))
		looksUp(t, "signed by more", client(t, n, b.head(4)), b.lines[8], b.head(9))
	}
}

// What comes as a note is taken as Take does it.
func TestP12_3_ComesAsTaken(t *testing.T) {
	const count = 9
	b := plain(t, count)
	fork := newBook(t, count, 5, "fork")
	for _, tiles := range []*book{b, fork} {
		n := web(t, tiles, upTo(count)...)
		for m := range count + 1 {
			for size := range count + 1 {
				for _, comes := range []*book{b, fork} {
					c, d := client(t, n, b.head(m)), client(t, n, b.head(m))
					e := c.Take(comes.head(size))
					lay(t, n, latestURL, comes.noteOf(t, size))
					if e == api.OK {
						latest(t, fmt.Sprint(m, " and ", size), d, comes.head(size), c.Head())
					} else {
						latestNot(t, fmt.Sprint(m, " and ", size), d, e, c.Head())
					}
				}
			}
		}
	}
}
