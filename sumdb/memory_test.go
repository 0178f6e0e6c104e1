package sumdb_test

import (
	"bytes"
	"fmt"
	"slices"
	"strings"
	"testing"

	"mews/api"
	"mews/net"
	"mews/note"
	"mews/proxy"
	"mews/sumdb"
	"mews/sumfile"
)

// The marks that lie behind lists, and that are written into answers.
const (
	roomByte   = 0xa5
	spoiltByte = 0x5a
)

// roomy is the list with spare room behind it, filled with a mark.
func roomy[T any](list []T, mark T) []T {
	whole := slices.Clone(list)
	for range 100 {
		whole = append(whole, mark)
	}
	return whole[:len(list)]
}

// whole is the list with what lies behind it.
func whole[T any](list []T) []T { return list[:cap(list)] }

// spoil writes into all the memory of a list.
func spoil[T any](list []T, mark T) {
	for i := range whole(list) {
		whole(list)[i] = mark
	}
	_ = append(list, mark, mark)
}

// spoiltLine is what is written into lines.
func spoiltLine() sumfile.Line {
	return sumfile.Line{Mod: at("spoilt", "spoilt"), Kind: 7, Sum: "spoilt"}
}

// roomyHead is a head whose root has spare room behind it.
func roomyHead(h note.Head) note.Head {
	return note.Head{Size: h.Size, Root: roomy(h.Root, roomByte)}
}

// remembering is a network's clients: one that asks again, one that remembers.
func remembering(t *testing.T, n *net.Net) []*proxy.Client {
	t.Helper()
	return []*proxy.Client{through(t, n), through(t, n).Remember()}
}

func TestP12_7_HeadsHandedIn(t *testing.T) {
	b := plain(t, 9)
	n := web(t, b, 4, 9)
	first, second := roomyHead(b.head(4)), roomyHead(b.head(9))
	before := string(whole(first.Root))
	c := client(t, n, first)
	is(t, "what was handed to New", string(whole(first.Root)), before)
	spoil(first.Root, spoiltByte)
	hasHead(t, "New's root spoilt", c, b.head(4))
	before = string(whole(second.Root))
	takes(t, "roomy", c, second, api.OK, b.head(9))
	is(t, "what was handed to Take", string(whole(second.Root)), before)
	spoil(second.Root, spoiltByte)
	hasHead(t, "Take's root spoilt", c, b.head(9))
	looksUp(t, "all roots spoilt", c, b.lines[0], b.head(9))
}

// The same where the head is of the client's size, or less.
func TestP12_7_OtherHeadsHandedIn(t *testing.T) {
	b := plain(t, 9)
	n := web(t, b, 4, 9)
	for _, h := range []note.Head{b.head(9), b.head(4), noHead(), evil(t, 9).head(9), evil(t, 9).head(4)} {
		c := client(t, n, b.head(9))
		given := roomyHead(h)
		before := string(whole(given.Root))
		c.Take(given)
		is(t, "what was handed in", string(whole(given.Root)), before)
		spoil(given.Root, spoiltByte)
		hasHead(t, "Take's root spoilt", c, b.head(9))
	}
}

// What lies behind a root doesn't make it longer.
func TestP12_7_RoomIsNoRoot(t *testing.T) {
	b := plain(t, 9)
	n := web(t, b, 9)
	root := roomy(b.head(9).Root, roomByte)
	for _, length := range []int{0, 1, 31} {
		short := note.Head{Size: 9, Root: root[:length]}
		_, e := sumdb.New(through(t, n), key(t), short)
		isError(t, "New", e, api.ErrForm)
		takes(t, "short", client(t, n, b.head(9)), short, api.ErrForm, b.head(9))
	}
}

func TestP12_7_HeadsHandedOut(t *testing.T) {
	b := plain(t, 9)
	for _, p := range remembering(t, web(t, b, 4, 9)) {
		c := clientOf(t, p, b.head(4))
		first, second := c.Head(), c.Head()
		spoil(first.Root, spoiltByte)
		is(t, "the other answer", tellHead(second), tellHead(b.head(4)))
		hasHead(t, "Head's answer spoilt", c, b.head(4))
		for range 2 {
			h, e := c.Latest()
			done(t, e)
			also, e := c.Latest()
			done(t, e)
			mine := c.Head()
			spoil(h.Root, spoiltByte)
			is(t, "the other answer", tellHead(also)+tellHead(mine), tellHead(b.head(9))+tellHead(b.head(9)))
			spoil(mine.Root, spoiltByte)
			hasHead(t, "Latest's answer spoilt", c, b.head(9))
		}
		looksUp(t, "all heads spoilt", c, b.lines[8], b.head(9))
	}
}

func TestP12_7_LinesHandedOut(t *testing.T) {
	b := plain(t, 9)
	for _, p := range remembering(t, web(t, b, 4, 9)) {
		c := clientOf(t, p, noHead())
		for id, l := range b.lines {
			first, e := c.Lookup(modOf(id))
			done(t, e)
			second, e := c.Lookup(modOf(id))
			done(t, e)
			room := slices.Clone(whole(second))
			spoil(first, spoiltLine())
			is(t, "the other answer", tell(whole(second)), tell(room))
			is(t, "the other answer", tell(second), tell(l))
			spoil(second, spoiltLine())
			looksUp(t, "lines spoilt", c, l, c.Head())
		}
	}
}

func TestP12_7_RecordsHandedIn(t *testing.T) {
	l := linesOf(modOf(0), "")
	other := linesOf(modOf(1), "")[0]
	want := recordOf(l)
	for _, list := range [][]sumfile.Line{l, {l[1], l[0]}} {
		given := roomy(list, other)
		before := slices.Clone(whole(given))
		b, e := sumdb.Record(given)
		isError(t, "Record, whatever lies behind", e, api.OK)
		is(t, "the lines that were handed in", tell(whole(given)), tell(before))
		spoil(given, spoiltLine())
		is(t, "the record, the lines spoilt", string(b), want)
	}
	for count := range 2 {
		_, e := sumdb.Record(roomy(l, other)[:count])
		isError(t, "Record of too few, more behind them", e, api.ErrForm)
	}
	first, _ := sumdb.Record(l)
	second, _ := sumdb.Record(l)
	room := string(whole(second))
	spoil(first, spoiltByte)
	is(t, "the other record", string(whole(second)), room)
	again, _ := sumdb.Record(l)
	is(t, "the record, asked again", string(again), want)
}

func TestP12_7_RecordBytes(t *testing.T) {
	want := linesOf(modOf(0), "")
	text := recordOf(want)
	for length := range len(text) + 1 {
		// What lies behind the bytes would make a record of them.
		room := []byte(text + strings.Repeat("x", 50))
		given := room[:length]
		before := string(room)
		l, e := sumdb.ParseRecord(given)
		is(t, fmt.Sprint("whether ", length, " bytes are a record"), e == api.OK, length == len(text))
		is(t, "what was handed in", string(room), before)
		also, _ := sumdb.ParseRecord(given)
		spoil(room, spoiltByte)
		if e == api.OK {
			is(t, "the lines, what was handed in spoilt", tell(l), tell(want))
			room := slices.Clone(whole(also))
			spoil(l, spoiltLine())
			is(t, "the other lines", tell(whole(also)), tell(room))
		}
	}
}

func TestP12_7_FormatLookup(t *testing.T) {
	text := recordOf(linesOf(modOf(0), ""))
	for _, length := range []int{0, 1, len(text)} {
		room := []byte(text + strings.Repeat("x", 500))
		given := room[:length]
		before := string(room)
		want := lookupText("7", text[:length], "note")
		first := sumdb.FormatLookup(7, given, "note")
		second := sumdb.FormatLookup(7, given, "note")
		is(t, "what was handed in", string(room), before)
		behind := string(whole(second))
		spoil(first, spoiltByte)
		is(t, "what was handed in, an answer spoilt", string(room), before)
		is(t, "the other answer", string(whole(second)), behind)
		spoil(room, spoiltByte)
		is(t, "the answer, what was handed in spoilt", string(second), want)
	}
}

func TestP12_7_ParseLookup(t *testing.T) {
	record := recordOf(linesOf(modOf(0), ""))
	text := lookupText("7", record, "note")
	for length := range len(text) + 1 {
		room := []byte(text + strings.Repeat("x", 50))
		given := room[:length]
		before := string(room)
		id, first, signed, e := sumdb.ParseLookup(given)
		_, second, _, _ := sumdb.ParseLookup(given)
		is(t, "what was handed in", string(room), before)
		if length <= len(text)-len("note") {
			isError(t, "ParseLookup of a part", e, api.ErrReply)
			continue
		}
		isError(t, "ParseLookup", e, api.OK)
		behind := string(whole(second))
		spoil(first, spoiltByte)
		is(t, "what was handed in, an answer spoilt", string(room), before)
		is(t, "the other record", string(whole(second)), behind)
		spoil(room, spoiltByte)
		is(t, "the record, what was handed in spoilt", string(second), record)
		is(t, "the note, what was handed in spoilt", strings.Clone(signed), text[len(text)-4:length])
		is(t, "the number", id, 7)
	}
}

// roomyRecords is records with spare room behind them, and behind each of them.
func roomyRecords(records [][]sumfile.Line, mark []sumfile.Line) [][]sumfile.Line {
	records = roomy(records, mark)
	for i := range records {
		records[i] = roomy(records[i], mark[0])
	}
	return records
}

// tellRecords is records as one text, with what lies behind them.
func tellRecords(records [][]sumfile.Line) string {
	var parts []string
	for _, l := range whole(records) {
		parts = append(parts, tell(whole(l)))
	}
	return strings.Join(parts, "|")
}

func TestP12_7_PagesHandedIn(t *testing.T) {
	b := plain(t, 7)
	b.lines[3] = []sumfile.Line{b.lines[3][1], b.lines[3][0]}
	want := tellPages(modelPages(t, base, plain(t, 7), []int{2, 5}))
	records := roomyRecords(b.lines, linesOf(modOf(0), "behind"))
	sizes := append(make([]int, 0, 10), 2, 5)
	copy(sizes[2:10], []int{6, 7, 7, 1})
	before, sizesBefore := tellRecords(records), fmt.Sprint(whole(sizes))
	pages, e := sumdb.Pages(base, records, sizes, key(t))
	isError(t, "Pages, whatever lies behind", e, api.OK)
	is(t, "the records that were handed in", tellRecords(records), before)
	is(t, "the sizes that were handed in", fmt.Sprint(whole(sizes)), sizesBefore)
	for _, l := range records {
		spoil(l, spoiltLine())
	}
	spoil(records, nil)
	spoil(sizes, -1)
	is(t, "the pages, what was handed in spoilt", tellPages(pages), want)
}

// No two lists of Pages share memory, of one answer or of two.
func TestP12_7_PagesHandedOut(t *testing.T) {
	b := plain(t, 21)
	sizes := []int{1, 2, 5, 20, 21}
	want := tellPages(modelPages(t, base, b, sizes))
	first, second := laysOut(t, base, b, sizes), laysOut(t, base, b, sizes)
	rooms := func() [][]byte {
		var l [][]byte
		for _, p := range slices.Concat(first, second) {
			l = append(l, bytes.Clone(whole(p.Data)))
		}
		return l
	}
	for i := range first {
		before := rooms()
		spoil(first[i].Data, spoiltByte)
		for k, room := range rooms() {
			if k != i && !bytes.Equal(room, before[k]) {
				t.Errorf("the page %d shows what was written into the page %d", k, i)
			}
		}
	}
	spoil(first, net.Page{URL: "spoilt"})
	is(t, "the other answer", tellPages(second), want)
	is(t, "asked again", tellPages(laysOut(t, base, b, sizes)), want)
}

// The network's pages are not changed by what a client answers, nor is a client
// by what is written to the network later.
func TestP12_7_ThePagesStay(t *testing.T) {
	b := plain(t, 9)
	n := web(t, b, 4, 9)
	c := client(t, n, noHead())
	for range 2 {
		l, e := c.Lookup(modOf(8))
		done(t, e)
		spoil(l, spoiltLine())
		h, e := c.Latest()
		done(t, e)
		spoil(h.Root, spoiltByte)
	}
	for url, text := range textsOf(t, b, 4, 9) {
		is(t, url, string(n.Get(url).Data), text)
	}
	for url, text := range textsOf(t, b, 4, 9) {
		lay(t, n, url, strings.Repeat("x", len(text)))
	}
	hasHead(t, "pages overwritten", c, b.head(9))
}
