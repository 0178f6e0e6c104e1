package sumdb_test

import (
	"fmt"
	"strconv"
	"strings"
	"testing"

	"mews/api"
	"mews/net"
	"mews/note"
	"mews/proxy"
)

// Each record of each log, whatever head of that log the client has.
func TestP12_4_Lookup(t *testing.T) {
	const count = 18
	b := plain(t, count)
	n := web(t, b, upTo(count)...)
	for size := 1; size <= count; size++ {
		for id := range size {
			lay(t, n, lookupURL(id), b.lookupOf(t, id, size))
			for m := range count + 1 {
				looksUp(t, fmt.Sprint(id, " of ", size, ", had ", m), client(t, n, b.head(m)), b.lines[id], b.head(max(m, size)))
			}
		}
	}
}

// Modules that are escaped, and such as differ but in case, are told apart.
func TestP12_4_LookupOfAnyModule(t *testing.T) {
	b := plain(t, 0)
	for _, m := range append(mods(), at("a.b/C", "v1.0.0"), at("a.b/c", "v1.0.0-A"), at("a.b/c", "v1.0.0-a")) {
		b.lines = append(b.lines, linesOf(m, ""))
		b.texts = append(b.texts, recordOf(linesOf(m, "")))
	}
	c := client(t, web(t, b, 3, len(b.lines)), noHead())
	for id, l := range b.lines {
		size := 3
		if id >= 3 {
			size = len(b.lines)
		}
		looksUp(t, brief(l[0].Mod), c, l, b.head(size))
	}
}

// A longest base, and options at their bounds.
func TestP12_4_BehindTheBase(t *testing.T) {
	b := plain(t, 0)
	for _, m := range mods() {
		b.lines = append(b.lines, linesOf(m, ""))
		b.texts = append(b.texts, recordOf(linesOf(m, "")))
	}
	for _, base := range []string{"", "x", strings.Repeat("b", 40)} {
		n, e := net.New(modelPages(t, base, b, []int{len(b.lines)}), nil)
		done(t, e)
		p, e := proxy.New(n, base, proxy.Opts{Tries: 1, Patience: 1, Budget: api.MaxBudget})
		done(t, e)
		c := clientOf(t, p, noHead())
		for _, l := range b.lines {
			looksUp(t, "behind "+base, c, l, b.head(len(b.lines)))
		}
		latest(t, "behind "+base, c, b.head(len(b.lines)), b.head(len(b.lines)))
	}
}

// What befalls the first page goes up, and nothing else is asked for.
func TestP12_4_FetchErrors(t *testing.T) {
	b := plain(t, 9)
	n := web(t, b, 4, 9)
	for _, m := range []int{0, 4, 9} {
		c := client(t, n, b.head(m))
		for _, x := range []struct {
			f    net.Fault
			want api.Errno
		}{
			{gone(), api.ErrNone}, {lost(), api.ErrNet}, {busy(), api.ErrNet}, {late(2), api.ErrNet}, {forged(strings.Repeat("x", usual.Budget+1)), api.ErrBudget},
		} {
			watch := since(n)
			befall(t, n, lookupURL(8), x.f)
			befall(t, n, latestURL, x.f)
			looksUpNot(t, "at fault", c, modOf(8), x.want, b.head(m))
			latestNot(t, "at fault", c, x.want, b.head(m))
			requested(t, "at fault", watch(), lookupURL(8), latestURL)
		}
		looksUp(t, "behind faults", c, b.lines[8], b.head(9))
	}
}

// Whoever asks again gets what was lost.
func TestP12_4_AsksAgain(t *testing.T) {
	b := plain(t, 9)
	n := web(t, b, 4, 9)
	p, e := proxy.New(n, base, proxy.Opts{Tries: 3, Patience: 2, Budget: 1000})
	done(t, e)
	for _, url := range []string{lookupURL(8), tileURL("0/002.p/1"), tileURL("1/000.p/2")} {
		befall(t, n, url, lost(), late(3))
	}
	looksUp(t, "asked again", clientOf(t, p, b.head(4)), b.lines[8], b.head(9))
	is(t, "Total", n.Total(), 9)
}

// What is no lookup is refused ahead of its note.
func TestP12_4_NoLookups(t *testing.T) {
	b := plain(t, 9)
	n := web(t, b, 4, 9)
	good, signed := b.texts[8], b.noteOf(t, 9)
	for _, page := range []string{
		"", "\n", "8", "8\n" + good, "8\n" + good + "\n", "8\n\n" + signed, lookupText("08", good, signed), lookupText("", good, signed), lookupText("-8", good, signed),
		lookupText("1048576", good, signed), lookupText(strings.Repeat("8", 10000), good, signed), lookupText("8", "", signed), lookupText("8", good[1:], signed),
		lookupText("8", good+good, signed), lookupText("8", good+b.texts[7], signed), lookupText("08", good, "note"), lookupText("8", good[:len(good)/2], "note"),
		signed, good, lookupText("8", signed, good),
	} {
		c := client(t, n, b.head(4))
		lay(t, n, lookupURL(8), page)
		watch := since(n)
		looksUpNot(t, brief(page), c, modOf(8), api.ErrReply, b.head(4))
		requested(t, brief(page), watch(), lookupURL(8))
	}
}

// A record of another module is refused ahead of its note: the head stays.
func TestP12_4_OtherModules(t *testing.T) {
	b := plain(t, 9)
	n := web(t, b, 4, 9)
	asked := at("a.b/m8", "v1.0.0")
	for _, m := range []api.Mod{
		modOf(7), at("a.b/m8", "v1.0.1"), at("a.b/M8", "v1.0.0"), at("a.b/m8/m8", "v1.0.0"), at("a.b", "v1.0.0"), at("a.b/m8", "v1.0.0-a"), at("a.b/m8/v2", "v2.0.0"),
	} {
		for _, signed := range []string{b.noteOf(t, 9), "note", evil(t, 9).noteOf(t, 9)} {
			lay(t, n, lookupURL(8), lookupText("8", recordOf(linesOf(m, "")), signed))
			watch := since(n)
			looksUpNot(t, brief(m), client(t, n, b.head(4)), asked, api.ErrReply, b.head(4))
			requested(t, brief(m), watch(), lookupURL(8))
		}
	}
}

// A number that isn't below its head's size: the head is the client's all the
// same, and no tile is asked for but those of its coming.
func TestP12_4_NumbersOutOfRange(t *testing.T) {
	b := plain(t, 9)
	n := web(t, b, upTo(9)...)
	for m := range 10 {
		for size := range 10 {
			d := client(t, n, b.head(m))
			watch := since(n)
			takes(t, "honest", d, b.head(size), api.OK, b.head(max(m, size)))
			needed := append(watch(), lookupURL(8))
			for _, number := range []int{size, size + 1, 9, api.MaxRecords - 1} {
				lay(t, n, lookupURL(8), lookupText(strconv.Itoa(number), b.texts[8], b.noteOf(t, size)))
				watch := since(n)
				what := fmt.Sprint(number, " of ", size, ", had ", m)
				looksUpNot(t, what, client(t, n, b.head(m)), modOf(8), api.ErrRange, b.head(max(m, size)))
				requested(t, what, watch(), needed...)
			}
		}
	}
}

// A record that isn't in the log, or not at that number: its head is the client's.
func TestP12_4_NotInTheLog(t *testing.T) {
	const count = 9
	b, other := plain(t, count), evil(t, count)
	n := web(t, b, upTo(count)...)
	for m := range count + 1 {
		for size := 1; size <= count; size++ {
			for id := range size {
				lay(t, n, lookupURL(id), lookupText(strconv.Itoa(id), other.texts[id], b.noteOf(t, size)))
				what := fmt.Sprint(id, " of ", size, ", had ", m)
				looksUpNot(t, what+", of another log", client(t, n, b.head(m)), modOf(id), api.ErrProof, b.head(max(m, size)))
				for number := range size {
					if number == id {
						continue
					}
					lay(t, n, lookupURL(id), lookupText(strconv.Itoa(number), b.texts[id], b.noteOf(t, size)))
					looksUpNot(t, fmt.Sprint(what, ", as ", number), client(t, n, b.head(m)), modOf(id), api.ErrProof, b.head(max(m, size)))
				}
			}
		}
	}
}

// Each sum of a record counts.
func TestP12_4_OneSumTurned(t *testing.T) {
	b := plain(t, 5)
	n := web(t, b, 5)
	for kind := range 2 {
		l := linesOf(modOf(2), "")
		l[kind].Sum = sumOf("forged")
		lay(t, n, lookupURL(2), lookupText("2", recordOf(l), b.noteOf(t, 5)))
		looksUpNot(t, "forged", client(t, n, noHead()), modOf(2), api.ErrProof, b.head(5))
	}
}

// Each tile that a record's proof needs, at fault in each way: what its head
// has made of the client stays.
func TestP12_4_BadTiles(t *testing.T) {
	const count = 21
	b, other := plain(t, count), evil(t, count)
	n := web(t, b, upTo(count)...)
	texts, theirs := textsOf(t, b, upTo(count)...), textsOf(t, other, upTo(count)...)
	for _, size := range []int{2, 3, 4, 5, 9, 16, 17, 21} {
		for _, id := range []int{0, 1, size / 2, size - 1} {
			lay(t, n, lookupURL(id), b.lookupOf(t, id, size))
			for _, m := range []int{0, size} {
				watch := since(n)
				looksUp(t, "honest", client(t, n, b.head(m)), b.lines[id], b.head(size))
				for _, url := range watch() {
					if url == lookupURL(id) {
						continue
					}
					what := fmt.Sprint(id, " of ", size, ", ", url)
					for _, x := range badTiles() {
						befall(t, n, url, x.fault(texts[url]))
						looksUpNot(t, what+" "+x.what, client(t, n, b.head(m)), modOf(id), x.want, b.head(size))
					}
					befall(t, n, url, forged(theirs[url]))
					looksUpNot(t, what+" of another log", client(t, n, b.head(m)), modOf(id), api.ErrProof, b.head(size))
				}
			}
		}
	}
}

// A lookup under a head that is shorter than the client's is proved by that
// head's tiles.
func TestP12_4_OlderHead(t *testing.T) {
	b := plain(t, 9)
	n := web(t, b, 3, 9)
	c := client(t, n, b.head(9))
	watch := since(n)
	looksUp(t, "older", c, b.lines[0], b.head(9))
	requested(t, "older", watch(), lookupURL(0), tileURL("0/000.p/3"), tileURL("0/000"), tileURL("1/000.p/2"), tileURL("0/002.p/1"))
	for url, want := range map[string]api.Errno{tileURL("0/000.p/3"): api.ErrProof, tileURL("0/000"): api.ErrFork} {
		befall(t, n, url, forged(strings.Repeat("x", len(textsOf(t, b, 3, 9)[url]))))
		looksUpNot(t, "older, "+url, c, modOf(0), want, b.head(9))
	}
	fork := newBook(t, 9, 2, "fork")
	lay(t, n, lookupURL(0), fork.lookupOf(t, 0, 3))
	looksUpNot(t, "an older fork", c, modOf(0), api.ErrFork, b.head(9))
}

// One error ahead of the other, as the promise names them.
func TestP12_4_OrderOfErrors(t *testing.T) {
	b, other := plain(t, 9), evil(t, 9)
	all := textsOf(t, b, 4, 9)
	zero := signedText(t, headText(note.Head{Size: 0, Root: b.head(9).Root}), key(t))
	for _, x := range []struct {
		what, page string
		lost       []string
		want       api.Errno
		head       note.Head
	}{
		{"no form, not signed", lookupText("99999999", b.texts[8], "note"), nil, api.ErrReply, b.head(4)},
		{"another module, not signed", lookupText("8", b.texts[7], "note"), nil, api.ErrReply, b.head(4)},
		{"not signed, out of range", lookupText("9", b.texts[8], "note"), nil, api.ErrSign, b.head(4)},
		{"no head, out of range", lookupText("9", b.texts[8], signedText(t, "hi\n", key(t))), nil, api.ErrReply, b.head(4)},
		{"a head that is none, out of range", lookupText("9", b.texts[8], zero), nil, api.ErrForm, b.head(4)},
		{"a fork, out of range", lookupText("9", b.texts[8], other.noteOf(t, 9)), nil, api.ErrFork, b.head(4)},
		{"a fork of that size, out of range", lookupText("9", b.texts[8], other.noteOf(t, 4)), nil, api.ErrFork, b.head(4)},
		{"a fork, not in the log", lookupText("8", other.texts[8], other.noteOf(t, 9)), nil, api.ErrFork, b.head(4)},
		{"a growth's tile lost, a fork", lookupText("8", b.texts[8], other.noteOf(t, 9)), []string{tileURL("0/002.p/1")}, api.ErrNet, b.head(4)},
		{"a growth's tile lost, out of range", lookupText("9", b.texts[8], b.noteOf(t, 9)), []string{tileURL("0/002.p/1")}, api.ErrNet, b.head(4)},
		{"out of range, a record's tile lost", lookupText("9", b.texts[8], b.noteOf(t, 9)), []string{tileURL("0/000"), tileURL("0/001")}, api.ErrRange, b.head(9)},
		{"out of range, not in the log", lookupText("9", other.texts[8], b.noteOf(t, 9)), nil, api.ErrRange, b.head(9)},
		{"a record's tile lost, not in the log", lookupText("0", other.texts[8], b.noteOf(t, 9)), []string{tileURL("0/000")}, api.ErrNet, b.head(9)},
		{"not in the log", lookupText("8", other.texts[8], b.noteOf(t, 9)), nil, api.ErrProof, b.head(9)},
	} {
		n, e := net.New(nil, nil)
		done(t, e)
		for url, text := range all {
			lay(t, n, url, text)
		}
		lay(t, n, lookupURL(8), x.page)
		for _, url := range x.lost {
			befall(t, n, url, lost())
		}
		looksUpNot(t, x.what, client(t, n, b.head(4)), modOf(8), x.want, x.head)
	}
}

// Latest answers the head that came, be it shorter than the client's.
func TestP12_4_Latest(t *testing.T) {
	const count = 12
	b := plain(t, count)
	n := web(t, b, upTo(count)...)
	for m := range count + 1 {
		for size := range count + 1 {
			lay(t, n, latestURL, b.noteOf(t, size))
			latest(t, fmt.Sprint(size, ", had ", m), client(t, n, b.head(m)), b.head(size), b.head(max(m, size)))
		}
	}
}

// Latest needs no lookup, Lookup needs no latest note.
func TestP12_4_Apart(t *testing.T) {
	b := plain(t, 9)
	n := web(t, b, 4, 9)
	c := client(t, n, noHead())
	watch := since(n)
	latest(t, "alone", c, b.head(9), b.head(9))
	requested(t, "Latest", watch(), latestURL)
	befall(t, n, latestURL, gone())
	watch = since(n)
	looksUp(t, "alone", c, b.lines[8], b.head(9))
	requested(t, "Lookup", watch(), lookupURL(8), tileURL("1/000.p/2"))
}

// Head and URL ask for nothing; nor does a module that is none.
func TestP12_4_NothingAsked(t *testing.T) {
	b := plain(t, 9)
	n := web(t, b, 9)
	c := client(t, n, b.head(9))
	for range 3 {
		hasHead(t, "asked", c, b.head(9))
	}
	looksUpNot(t, "none", c, at("x.y", "v2.0.0"), api.ErrMajor, b.head(9))
	is(t, "Total", n.Total(), 0)
}

// What a client answers doesn't hang on what it answered before, but by its head.
func TestP12_4_NothingIsKept(t *testing.T) {
	b := plain(t, 9)
	n := web(t, b, 4, 9)
	c := client(t, n, noHead())
	looksUp(t, "first", c, b.lines[8], b.head(9))
	befall(t, n, lookupURL(8), gone())
	looksUpNot(t, "gone", c, modOf(8), api.ErrNone, b.head(9))
	befall(t, n, tileURL("1/000.p/2"), lost())
	looksUpNot(t, "a tile that came once is lost", c, modOf(8), api.ErrNet, b.head(9))
	looksUp(t, "there again", c, b.lines[8], b.head(9))
}
