package sumdb_test

import (
	"crypto/sha256"
	"encoding/base64"
	"fmt"
	"slices"
	"strconv"
	"strings"
	"testing"

	"mews/api"
	"mews/net"
	"mews/note"
	"mews/proxy"
	"mews/sumdb"
	"mews/sumfile"
)

// base is where the server of most tests stands.
const base = "/db"

// usual is the options of most tests: whatever is lost is lost at once.
var usual = proxy.Opts{Tries: 1, Patience: 1, Budget: 1 << 18}

// brief is how something is told where a test fails.
func brief(v any) string { return fmt.Sprintf("%.600s", fmt.Sprintf("%+q", v)) }

// is fails the test unless got is want.
func is[T comparable](t *testing.T, what string, got, want T) {
	t.Helper()
	if got != want {
		t.Errorf("%s: %s, not %s", what, brief(got), brief(want))
	}
}

// isError fails the test unless an error is the one that is asked.
func isError(t *testing.T, what string, got, want api.Errno) {
	t.Helper()
	if got != want {
		t.Errorf("%s: error %d, not %d", what, got, want)
	}
}

// done is a call that the test takes for granted.
func done(t *testing.T, e api.Errno) {
	t.Helper()
	if e != api.OK {
		t.Fatalf("error %d, not OK", e)
	}
}

// newKey is a key.
func newKey(t *testing.T, name, secret string) note.Key {
	t.Helper()
	k, e := note.NewKey(name, []byte(secret))
	done(t, e)
	return k
}

// key is the log's.
func key(t *testing.T) note.Key {
	t.Helper()
	return newKey(t, "log", "s")
}

// at is a module.
func at(path, version string) api.Mod { return api.Mod{Path: path, Version: version} }

// modOf is the module of a log's record.
func modOf(id int) api.Mod { return at("a.b/m"+strconv.Itoa(id), "v1.0.0") }

// sumOf is the sum of a text.
func sumOf(text string) string {
	b := sha256.Sum256([]byte(text))
	return "h1:" + base64.StdEncoding.EncodeToString(b[:])
}

// linesOf is the lines of a module, of a log that says so.
func linesOf(m api.Mod, says string) []sumfile.Line {
	return []sumfile.Line{
		{Mod: m, Kind: sumfile.Tree, Sum: sumOf(says + " tree of " + m.Path + m.Version)},
		{Mod: m, Kind: sumfile.Manifest, Sum: sumOf(says + " manifest of " + m.Path + m.Version)},
	}
}

// recordOf is the record of lines, a Tree and a Manifest.
func recordOf(l []sumfile.Line) string {
	tree, manifest := l[0], l[1]
	return tree.Mod.Path + " " + tree.Mod.Version + " " + tree.Sum + "\n" +
		manifest.Mod.Path + " " + manifest.Mod.Version + "/go.mod " + manifest.Sum + "\n"
}

// tell is lines as one text.
func tell(l []sumfile.Line) string {
	var parts []string
	for _, line := range l {
		parts = append(parts, fmt.Sprint(line.Mod.Path, "@", line.Mod.Version, " ", line.Kind, " ", line.Sum))
	}
	return strings.Join(parts, "; ")
}

// tellHead is a head as one text.
func tellHead(h note.Head) string { return fmt.Sprintf("%d %x", h.Size, h.Root) }

// book is a log that the tests know: its records, as lines and as texts. Roots
// and notes are worked out once for each size.
type book struct {
	lines [][]sumfile.Line
	texts []string
	key   note.Key
	roots map[int]string
	notes map[int]string
}

// newBook is a log of so many records: the first ones say nothing strange, as
// those of any other book; the others say so.
func newBook(t *testing.T, count, common int, says string) *book {
	t.Helper()
	b := &book{key: key(t), roots: map[int]string{}, notes: map[int]string{}}
	for id := range count {
		l := linesOf(modOf(id), "")
		if id >= common {
			l = linesOf(modOf(id), says)
		}
		b.lines = append(b.lines, l)
		b.texts = append(b.texts, recordOf(l))
	}
	return b
}

// plain is the usual log.
func plain(t *testing.T, count int) *book {
	t.Helper()
	return newBook(t, count, count, "")
}

// evil is a log of which no record is the usual one's.
func evil(t *testing.T, count int) *book {
	t.Helper()
	return newBook(t, count, 0, "evil")
}

// head is the log's head when it had so many records.
func (b *book) head(size int) note.Head {
	if _, known := b.roots[size]; !known {
		b.roots[size] = modelRoot(b.texts[:size])
	}
	return note.Head{Size: size, Root: []byte(b.roots[size])}
}

// noHead is the head of no record.
func noHead() note.Head { return note.Head{Root: []byte(modelRoot(nil))} }

// signedText is a note.
func signedText(t *testing.T, text string, keys ...note.Key) string {
	t.Helper()
	s, e := note.Sign(text, keys)
	done(t, e)
	return s
}

// headText is a head's text.
func headText(h note.Head) string {
	return "mews log\n" + strconv.Itoa(h.Size) + "\n" + base64.StdEncoding.EncodeToString(h.Root) + "\n"
}

// noteOf is the note of the log when it had so many records.
func (b *book) noteOf(t *testing.T, size int) string {
	t.Helper()
	if _, known := b.notes[size]; !known {
		b.notes[size] = signedText(t, headText(b.head(size)), b.key)
	}
	return b.notes[size]
}

// lookupOf is the lookup of a record, with the note of a size.
func (b *book) lookupOf(t *testing.T, id, size int) string {
	t.Helper()
	return lookupText(strconv.Itoa(id), b.texts[id], b.noteOf(t, size))
}

// lookupText is the text of a lookup.
func lookupText(number, record, signed string) string { return number + "\n" + record + "\n" + signed }

// lookupURL is where the lookup of a log's record stands.
func lookupURL(id int) string { return base + "/lookup/a.b/m" + strconv.Itoa(id) + "@v1.0.0" }

// tileURL is where a tile stands, by what the path has behind the height.
func tileURL(tail string) string { return base + "/tile/2/" + tail }

const latestURL = base + "/latest"

// upTo is the numbers from 1 on.
func upTo(last int) []int {
	var l []int
	for i := range last {
		l = append(l, i+1)
	}
	return l
}

// web is a network of the pages that an honest server of a log has.
func web(t *testing.T, b *book, sizes ...int) *net.Net {
	t.Helper()
	n, e := net.New(nil, nil)
	done(t, e)
	layPages(t, n, modelPages(t, base, b, sizes))
	return n
}

// layPages lays pages over those that a network has.
func layPages(t *testing.T, n *net.Net, pages []net.Page) {
	t.Helper()
	for _, p := range pages {
		done(t, n.Set(p.URL, p.Data))
	}
}

// lay lays pages over those that a network has: URL, text, URL, text ...
func lay(t *testing.T, n *net.Net, pairs ...string) {
	t.Helper()
	for i := 0; i < len(pairs); i += 2 {
		done(t, n.Set(pairs[i], []byte(pairs[i+1])))
	}
}

// Faults that are laid on a request by befall.
func lost() net.Fault              { return net.Fault{Kind: net.FDrop} }
func busy() net.Fault              { return net.Fault{Kind: net.FBusy} }
func gone() net.Fault              { return net.Fault{Kind: net.FGone} }
func late(ticks int) net.Fault     { return net.Fault{Kind: net.FLate, N: ticks} }
func cut(count int) net.Fault      { return net.Fault{Kind: net.FCut, N: count} }
func turned(bit int) net.Fault     { return net.Fault{Kind: net.FFlip, N: bit} }
func forged(text string) net.Fault { return net.Fault{Kind: net.FForge, Data: []byte(text)} }

// befall lays faults on a URL's next requests, in this order.
func befall(t *testing.T, n *net.Net, url string, faults ...net.Fault) {
	t.Helper()
	for i, f := range faults {
		f.URL, f.Attempt = url, n.Asked(url)+i+1
		done(t, n.Add(f))
	}
}

// through is a proxy's client of a network.
func through(t *testing.T, n *net.Net) *proxy.Client {
	t.Helper()
	p, e := proxy.New(n, base, usual)
	done(t, e)
	return p
}

// client is a client that knows a head.
func client(t *testing.T, n *net.Net, h note.Head) *sumdb.Client {
	t.Helper()
	return clientOf(t, through(t, n), h)
}

// clientOf is a client, of a proxy's client, that knows a head.
func clientOf(t *testing.T, p *proxy.Client, h note.Head) *sumdb.Client {
	t.Helper()
	c, e := sumdb.New(p, key(t), h)
	if c == nil || e != api.OK {
		t.Fatalf("New: error %d", e)
	}
	return c
}

// hasHead fails the test unless a client's head is this.
func hasHead(t *testing.T, what string, c *sumdb.Client, want note.Head) {
	t.Helper()
	is(t, "Head, "+what, tellHead(c.Head()), tellHead(want))
}

// looksUp fails the test unless Lookup answers lines, and the head is then this.
func looksUp(t *testing.T, what string, c *sumdb.Client, want []sumfile.Line, head note.Head) {
	t.Helper()
	l, e := c.Lookup(want[0].Mod)
	isError(t, "Lookup, "+what, e, api.OK)
	is(t, "Lookup, "+what, tell(l), tell(want))
	hasHead(t, what, c, head)
}

// looksUpNot fails the test unless Lookup answers an error, with nothing beside
// it, and the head is then this.
func looksUpNot(t *testing.T, what string, c *sumdb.Client, m api.Mod, want api.Errno, head note.Head) {
	t.Helper()
	l, e := c.Lookup(m)
	isError(t, "Lookup, "+what, e, want)
	is(t, "Lookup, "+what, tell(l), "")
	hasHead(t, what, c, head)
}

// takes fails the test unless Take answers this, and the head is then this.
func takes(t *testing.T, what string, c *sumdb.Client, h note.Head, want api.Errno, head note.Head) {
	t.Helper()
	isError(t, "Take, "+what, c.Take(h), want)
	hasHead(t, what, c, head)
}

// latest fails the test unless Latest answers this head, and the client's one is
// then this.
func latest(t *testing.T, what string, c *sumdb.Client, want, head note.Head) {
	t.Helper()
	h, e := c.Latest()
	isError(t, "Latest, "+what, e, api.OK)
	is(t, "Latest, "+what, tellHead(h), tellHead(want))
	hasHead(t, what, c, head)
}

// latestNot fails the test unless Latest answers an error, with nothing beside
// it, and the head is then this.
func latestNot(t *testing.T, what string, c *sumdb.Client, want api.Errno, head note.Head) {
	t.Helper()
	h, e := c.Latest()
	isError(t, "Latest, "+what, e, want)
	is(t, "Latest, "+what, tellHead(h), tellHead(note.Head{}))
	hasHead(t, what, c, head)
}

// since is a watch over what a network was asked from now on: each URL as often
// as it was requested, rising.
func since(n *net.Net) func() []string {
	before := map[string]int{}
	for _, url := range n.URLs() {
		before[url] = n.Asked(url)
	}
	return func() []string {
		var l []string
		for _, url := range n.URLs() {
			l = append(l, slices.Repeat([]string{url}, n.Asked(url)-before[url])...)
		}
		return l
	}
}

// requested fails the test unless just these were requested.
func requested(t *testing.T, what string, got []string, want ...string) {
	t.Helper()
	want = slices.Clone(want)
	slices.Sort(want)
	is(t, "what was requested, "+what, strings.Join(got, " "), strings.Join(want, " "))
}
