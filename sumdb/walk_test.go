package sumdb_test

import (
	"bytes"
	"encoding/base64"
	"fmt"
	"math/rand"
	"slices"
	"strconv"
	"strings"
	"testing"

	"mews/api"
	"mews/net"
	"mews/note"
	"mews/sumdb"
	"mews/sumfile"
	"mews/tlog"
)

// draw is one of some, by chance.
func draw[T any](chance *rand.Rand, list ...T) T { return list[chance.Intn(len(list))] }

// walk is a server that somebody meddles with, a client of it, and the model's.
type walk struct {
	chance *rand.Rand
	books  []*book
	own    *book // whose pages it had at first
	n      *net.Net
	texts  map[string]string
	next   map[string]net.Fault // what befalls a URL's next request
	ours   *sumdb.Client
	source *source
	theirs *modelClient
	had    []note.Head // each head that the client ever had
	met    map[api.Errno]int
	proved int
}

// newWalk is a walk that begins with an honest server.
func newWalk(t *testing.T, chance *rand.Rand, books []*book, met map[api.Errno]int) *walk {
	t.Helper()
	n, e := net.New(nil, nil)
	done(t, e)
	w := &walk{chance: chance, books: books, n: n, texts: map[string]string{}, next: map[string]net.Fault{}, met: met}
	w.own = draw(chance, books...)
	sizes := upTo(len(w.own.texts))
	for url, text := range textsOf(t, w.own, sizes...) {
		w.lay(t, url, text)
	}
	for id := range w.own.texts {
		w.lay(t, lookupURL(id), w.own.lookupOf(t, id, id+1+chance.Intn(len(w.own.texts)-id)))
	}
	h := noHead()
	if chance.Intn(3) > 0 {
		h = w.drawBook().head(chance.Intn(len(w.own.texts) + 1))
	}
	w.ours = client(t, n, h)
	w.source = &source{page: w.page}
	w.theirs = &modelClient{fetch: w.source.fetch, key: key(t), head: h}
	w.had = []note.Head{h}
	return w
}

// drawBook is mostly the server's own.
func (w *walk) drawBook() *book {
	if w.chance.Intn(4) > 0 {
		return w.own
	}
	return draw(w.chance, w.books...)
}

func (w *walk) lay(t *testing.T, url, text string) {
	t.Helper()
	lay(t, w.n, url, text)
	w.texts[url] = text
}

// page is what the model gets, as chapter 2 has it.
func (w *walk) page(url string) ([]byte, api.Errno) {
	url = base + url
	f := w.next[url]
	delete(w.next, url)
	text, there := w.texts[url]
	switch f.Kind {
	case net.FDrop:
		return nil, api.ErrNet
	case net.FGone:
		return nil, api.ErrNone
	case net.FForge:
		text, there = string(f.Data), true
	case net.FCut:
		text = text[:min(f.N, len(text))]
	}
	switch {
	case !there:
		return nil, api.ErrNone
	case len(text) > usual.Budget:
		return nil, api.ErrBudget
	}
	return []byte(text), api.OK
}

// drawURL is where some page stands.
func (w *walk) drawURL() string {
	if w.chance.Intn(3) == 0 {
		return draw(w.chance, latestURL, lookupURL(w.chance.Intn(len(w.own.texts))))
	}
	size := 1 + w.chance.Intn(len(w.own.texts))
	level := w.chance.Intn(5)
	for size>>level == 0 {
		level--
	}
	url, _, _ := modelTile(size, modelTree{level, w.chance.Intn(size >> level)})
	return base + url
}

// drawLookup is a lookup, mostly one of the server's own log.
func (w *walk) drawLookup(t *testing.T, id int) string {
	size := 1 + w.chance.Intn(len(w.own.texts))
	if w.chance.Intn(3) > 0 {
		size = id + 1 + w.chance.Intn(len(w.own.texts)-id)
	}
	signer := w.drawBook()
	signed := signer.noteOf(t, size)
	switch w.chance.Intn(12) {
	case 0:
		signed = signedText(t, headText(w.drawHead()), newKey(t, "log", "other"))
	case 1:
		signed = signedText(t, draw(w.chance, "hi\n", headText(w.drawHead()), headText(w.drawHead())), key(t))
	}
	number := id
	if w.chance.Intn(10) == 0 {
		number = w.chance.Intn(len(w.own.texts) + 1)
	}
	record := w.drawBook().texts[id]
	if w.chance.Intn(20) == 0 {
		record = w.own.texts[w.chance.Intn(len(w.own.texts))]
	}
	return lookupText(strconv.Itoa(number), record, signed)
}

// drawHead is a head, now and then one that is none.
func (w *walk) drawHead() note.Head {
	h := w.drawBook().head(w.chance.Intn(len(w.own.texts) + 1))
	switch w.chance.Intn(20) {
	case 0:
		h.Root[w.chance.Intn(32)] ^= 1
	case 1, 2:
		h.Size = 0
	case 3:
		h.Root = h.Root[:31]
	}
	return h
}

// turnPage is a page with some of its bytes others, or fewer, or more.
func (w *walk) turnPage(text string) string {
	if text == "" {
		return "x"
	}
	i := w.chance.Intn(len(text))
	switch w.chance.Intn(4) {
	case 0:
		return text[:i]
	case 1:
		return text + text[i:]
	}
	return text[:i] + string([]byte{text[i] ^ 1<<w.chance.Intn(8)}) + text[i+1:]
}

// meddle changes what the server has, or what befalls a request.
func (w *walk) meddle(t *testing.T) {
	t.Helper()
	url := w.drawURL()
	switch w.chance.Intn(10) {
	case 0, 1, 2, 3:
		id := w.chance.Intn(len(w.own.texts))
		w.lay(t, lookupURL(id), w.drawLookup(t, id))
	case 4:
		signed := w.drawBook().noteOf(t, 1+w.chance.Intn(len(w.own.texts)))
		w.lay(t, latestURL, signed)
	case 5:
		b := w.drawBook()
		for url, text := range textsOf(t, b, 1+w.chance.Intn(len(b.texts))) {
			if strings.Contains(url, "/tile/") {
				w.lay(t, url, text)
			}
		}
	case 6:
		w.lay(t, url, w.turnPage(w.texts[url]))
	case 7:
		// What a page was before, it is again.
		for url, text := range textsOf(t, w.own, upTo(len(w.own.texts))...) {
			w.lay(t, url, text)
		}
	default:
		w.befall(t, url)
	}
}

// befall lays a fault on a URL's next request, if there is none yet.
func (w *walk) befall(t *testing.T, url string) {
	t.Helper()
	if _, there := w.next[url]; there {
		return
	}
	f := draw(w.chance, lost(), gone(), cut(w.chance.Intn(200)), forged(w.turnPage(w.texts[url])), forged(strings.Repeat("x", draw(w.chance, 32, usual.Budget+1))))
	w.next[url] = f
	befall(t, w.n, url, f)
}

// call is one call of both clients, that have to answer the same, and to ask
// for the same.
func (w *walk) call(t *testing.T) {
	t.Helper()
	watch := since(w.n)
	var e, want api.Errno
	switch w.chance.Intn(6) {
	case 0:
		h := w.drawHead()
		e, want = w.ours.Take(h), w.theirs.take(h)
	case 1:
		var h, wantHead note.Head
		h, e = w.ours.Latest()
		wantHead, want = w.theirs.latest()
		is(t, "Latest", tellHead(h), tellHead(wantHead))
	default:
		id := w.chance.Intn(len(w.own.texts))
		var l, wantLines []sumfile.Line
		l, e = w.ours.Lookup(modOf(id))
		wantLines, want = w.theirs.lookup(modOf(id))
		is(t, "Lookup", tell(l), tell(wantLines))
		if e == api.OK {
			w.isProved(t, l)
		}
	}
	isError(t, "a call", e, want)
	hasHead(t, "behind a call", w.ours, w.theirs.head)
	requested(t, "a call", watch(), w.source.take()...)
	w.met[e]++
	w.keeps(t)
}

// keeps fails the test unless the client's head goes on from each that it had.
func (w *walk) keeps(t *testing.T) {
	t.Helper()
	h := w.ours.Head()
	last := w.had[len(w.had)-1]
	if tellHead(h) == tellHead(last) {
		return
	}
	is(t, "whether the head's size rises", h.Size > last.Size, true)
	w.areOneLog(t, h)
	w.had = append(w.had, h)
}

// areOneLog fails the test unless a head is consistent with each that the client
// ever had: by CheckTree, with the proof of the log whose head the longer one is.
func (w *walk) areOneLog(t *testing.T, h note.Head) {
	t.Helper()
	for _, had := range w.had {
		older, newer := had, h
		if older.Size > newer.Size {
			older, newer = newer, older
		}
		if older.Size == 0 {
			continue
		}
		b := ownerOf(w.books, newer)
		if b == nil {
			is(t, "a head that is no log's", tellHead(older), tellHead(newer))
			continue
		}
		proof, e := b.log(t).ProveTree(older.Size, newer.Size)
		done(t, e)
		isError(t, "CheckTree", tlog.CheckTree(proof, older.Size, newer.Size, older.Root, newer.Root), api.OK)
	}
}

// isProved fails the test unless the lines are a record that is in a log whose
// head the key verified, and which is one with each head that the client had.
func (w *walk) isProved(t *testing.T, l []sumfile.Line) {
	t.Helper()
	w.proved++
	x := w.theirs.proved
	is(t, "the record", recordOf(l), x.record)
	is(t, "whether the key verifies the head", isVerified(key(t), x.signed, headText(x.head)), true)
	b := ownerOf(w.books, x.head)
	if b == nil {
		t.Fatalf("the head %s is no log's", tellHead(x.head))
	}
	proof, e := b.log(t).Prove(x.id, x.head.Size)
	done(t, e)
	isError(t, "CheckRecord", tlog.CheckRecord(proof, x.id, x.head.Size, tlog.Leaf([]byte(recordOf(l))), x.head.Root), api.OK)
	w.areOneLog(t, x.head)
}

// isVerified tells whether a note has this text, and the key verifies one of its lines.
func isVerified(k note.Key, signed, text string) bool {
	lines, ok := strings.CutPrefix(signed, text+"\n")
	return ok && slices.ContainsFunc(strings.Split(lines, "\n"), func(line string) bool {
		b, err := base64.StdEncoding.DecodeString(line[strings.LastIndex(line, " ")+1:])
		return err == nil && len(b) > 4 && k.Verify(text, b[4:])
	})
}

// log is the book's log.
func (b *book) log(t *testing.T) *tlog.Log {
	t.Helper()
	l := tlog.New()
	for _, text := range b.texts {
		_, e := l.Append([]byte(text))
		done(t, e)
	}
	root, e := l.Root(len(b.texts))
	done(t, e)
	is(t, "whether the log is the model's", bytes.Equal(root, b.head(len(b.texts)).Root), true)
	return l
}

// Whatever a server answers: what a client answers is proved, and all that it
// answers and asks is as the chapter says.
func TestP12_9_Walks(t *testing.T) {
	chance := rand.New(rand.NewSource(129))
	books := known(t)
	met := map[api.Errno]int{}
	proved, grown := 0, 0
	for range 150 {
		w := newWalk(t, chance, books, met)
		for range 60 {
			if chance.Intn(3) == 0 {
				w.meddle(t)
			} else {
				w.call(t)
			}
		}
		proved += w.proved
		grown += len(w.had) - 1
	}
	for _, e := range []api.Errno{api.OK, api.ErrNone, api.ErrNet, api.ErrBudget, api.ErrReply, api.ErrSign, api.ErrForm, api.ErrFork, api.ErrRange, api.ErrProof} {
		is(t, fmt.Sprint("whether error ", e, " was met often: ", met[e]), met[e] > 20, true)
	}
	is(t, fmt.Sprint("whether much was proved: ", proved), proved > 500, true)
	is(t, fmt.Sprint("whether heads have grown: ", grown), grown > 200, true)
}
