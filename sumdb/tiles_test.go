package sumdb_test

import (
	"fmt"
	"regexp"
	"slices"
	"strconv"
	"strings"
	"testing"

	"mews/api"
	"mews/net"
	"mews/note"
	"mews/sumdb"
)

// source is what a model's client fetches by, and what it has fetched.
type source struct {
	page    func(url string) ([]byte, api.Errno)
	fetched []string
}

func (s *source) fetch(url string) ([]byte, api.Errno) {
	s.fetched = append(s.fetched, base+url)
	return s.page(url)
}

// take is what was fetched since it was asked last.
func (s *source) take() []string {
	l := s.fetched
	s.fetched = nil
	return l
}

// pagesSource is a source of a network's pages, by the URLs behind its base.
func pagesSource(texts map[string]string) *source {
	return &source{page: func(url string) ([]byte, api.Errno) {
		text, there := texts[base+url]
		if !there {
			return nil, api.ErrNone
		}
		return []byte(text), api.OK
	}}
}

// Just the tiles that the proofs need are fetched, each once, as wide as it is.
func TestP12_5_WhatIsFetched(t *testing.T) {
	const count = 21
	b := plain(t, count)
	n := web(t, b, upTo(count)...)
	texts := textsOf(t, b, upTo(count)...)
	s := pagesSource(texts)
	for size := 1; size <= count; size++ {
		for _, id := range []int{0, size / 3, size / 2, size - 1} {
			page := b.lookupOf(t, id, size)
			lay(t, n, lookupURL(id), page)
			texts[lookupURL(id)] = page
			for m := range count + 1 {
				what := fmt.Sprint(id, " of ", size, ", had ", m)
				watch := since(n)
				looksUp(t, what, client(t, n, b.head(m)), b.lines[id], b.head(max(m, size)))
				_, e := (&modelClient{fetch: s.fetch, key: key(t), head: b.head(m)}).lookup(modOf(id))
				isError(t, "the model, "+what, e, api.OK)
				got := watch()
				requested(t, what, got, s.take()...)
				is(t, "how many twice, "+what, len(slices.Compact(slices.Clone(got))), len(got))
			}
		}
	}
}

// One tile of two widths, for two heads, is two tiles.
func TestP12_5_TwoWidths(t *testing.T) {
	b := plain(t, 3)
	n := web(t, b, 2, 3)
	watch := since(n)
	looksUp(t, "two widths", client(t, n, b.head(3)), b.lines[0], b.head(3))
	requested(t, "two widths", watch(), lookupURL(0), tileURL("0/000.p/2"), tileURL("0/000.p/3"))
	// A wider one, or a narrower one, is not taken for it.
	befall(t, n, tileURL("0/000.p/2"), forged(b.tileText(0, 0, 3)))
	looksUpNot(t, "a wider one", client(t, n, b.head(3)), modOf(0), api.ErrReply, b.head(3))
	befall(t, n, tileURL("0/000.p/3"), forged(b.tileText(0, 0, 2)))
	looksUpNot(t, "a narrower one", client(t, n, b.head(3)), modOf(0), api.ErrReply, b.head(3))
}

// A tile that is full, at the edges of its row.
func TestP12_5_Full(t *testing.T) {
	for size, want := range map[int][]string{
		1: {}, 2: {"0/000.p/2"}, 3: {"0/000.p/3"}, 4: {"0/000"}, 5: {"0/000", "0/001.p/1"}, 8: {"0/000", "1/000.p/2"}, 15: {"0/000", "0/003.p/3", "1/000.p/3"},
		16: {"0/000", "1/000"}, 17: {"0/000", "0/004.p/1", "1/000"}, 20: {"0/000", "1/000", "1/001.p/1"}, 64: {"0/000", "1/000", "2/000"}, 65: {"0/000", "0/016.p/1", "1/000", "2/000"},
	} {
		b := plain(t, size)
		n := web(t, b, size)
		watch := since(n)
		looksUp(t, fmt.Sprint(size), client(t, n, noHead()), b.lines[0], b.head(size))
		urls := []string{lookupURL(0)}
		for _, tail := range want {
			urls = append(urls, tileURL(tail))
		}
		requested(t, fmt.Sprint(size), watch(), urls...)
	}
}

// The next call asks anew: a tile that has come right is taken then.
func TestP12_5_EachCallAsksAnew(t *testing.T) {
	b := plain(t, 9)
	n := web(t, b, 4, 9)
	c := client(t, n, b.head(4))
	lay(t, n, tileURL("1/000.p/2"), "short")
	looksUpNot(t, "a short tile", c, modOf(8), api.ErrReply, b.head(4))
	isError(t, "Take", c.Take(b.head(9)), api.ErrReply)
	latestNot(t, "a short tile", c, api.ErrReply, b.head(4))
	lay(t, n, tileURL("1/000.p/2"), evil(t, 9).tileText(1, 0, 2))
	latestNot(t, "another log's tile", c, api.ErrFork, b.head(4))
	lay(t, n, tileURL("1/000.p/2"), b.tileText(1, 0, 2))
	for range 2 {
		watch := since(n)
		looksUp(t, "the right tile", c, b.lines[8], b.head(9))
		is(t, "whether a tile was fetched", slices.Contains(watch(), tileURL("1/000.p/2")), true)
	}
}

// uniform is a log of which all records are one: the hash of a whole tree hangs
// on its level alone, so that it may be as long as a log can be.
type uniform struct {
	record string
	levels []string
}

func newUniform() *uniform {
	u := &uniform{record: recordOf(linesOf(modOf(0), ""))}
	u.levels = []string{modelLeaf(u.record)}
	for level := range 20 {
		u.levels = append(u.levels, modelNode(u.levels[level], u.levels[level]))
	}
	return u
}

// head is its head when it had so many records.
func (u *uniform) head(size int) note.Head {
	trees := treesOf(reach{0, size})
	root := modelRoot(nil)
	for i := len(trees) - 1; i >= 0; i-- {
		if i == len(trees)-1 {
			root = u.levels[trees[i].level]
		} else {
			root = modelNode(u.levels[trees[i].level], root)
		}
	}
	return note.Head{Size: size, Root: []byte(root)}
}

// tile is the bytes of a tile, by its URL.
func (u *uniform) tile(url string) ([]byte, api.Errno) {
	p := regexp.MustCompile(`^/tile/2/(\d+)/[x0-9/]+(?:\.p/(\d))?$`).FindStringSubmatch(url)
	if p == nil {
		return nil, api.ErrNone
	}
	row, _ := strconv.Atoi(p[1])
	width := 4
	if p[2] != "" {
		width, _ = strconv.Atoi(p[2])
	}
	return []byte(strings.Repeat(u.levels[2*row], width)), api.OK
}

// A log as long as can be, and tiles whose numbers have many digits.
func TestP12_5_LongLogs(t *testing.T) {
	u := newUniform()
	const most = api.MaxRecords
	numbers := 0
	for _, x := range []struct{ m, size, id int }{
		{0, most, 0}, {0, most, most - 1}, {most, most, most - 1}, {most, most, most / 2}, {1, most, most/2 - 1}, {most - 1, most, 12345}, {most, most - 1, most - 2},
		{most, 1, 0}, {most / 2, most, 4004}, {most/2 + 1, most - 1, 4003}, {699051, 349525, 174763}, {4001, 4003, 4002}, {4003, 4001, 3999}, {4000, 4004, 4000}, {most, most/2 + 1, most / 2},
	} {
		page := lookupText(strconv.Itoa(x.id), u.record, signedText(t, headText(u.head(x.size)), key(t)))
		s := &source{page: func(url string) ([]byte, api.Errno) {
			if base+url == lookupURL(0) {
				return []byte(page), api.OK
			}
			return u.tile(url)
		}}
		what := fmt.Sprint(x.id, " of ", x.size, ", had ", x.m)
		_, e := (&modelClient{fetch: s.fetch, key: key(t), head: u.head(x.m)}).lookup(modOf(0))
		isError(t, "the model, "+what, e, api.OK)
		n, e := net.New(nil, nil)
		done(t, e)
		needed := s.take()
		for _, url := range needed {
			b, _ := s.page(strings.TrimPrefix(url, base))
			lay(t, n, url, string(b))
			numbers += strings.Count(url, "/x")
		}
		watch := since(n)
		looksUp(t, what, client(t, n, u.head(x.m)), linesOf(modOf(0), ""), u.head(max(x.m, x.size)))
		requested(t, what, watch(), needed...)
	}
	is(t, "whether numbers of many digits were met", numbers > 10, true)
}

// A long log by the pages of its own server.
func TestP12_5_ManyRecords(t *testing.T) {
	const count = 4100
	b := plain(t, count)
	pages, e := sumdb.Pages(base, b.lines, []int{4000, 4001, count}, key(t))
	done(t, e)
	n, e := net.New(pages, nil)
	done(t, e)
	c := client(t, n, noHead())
	for _, x := range []struct{ id, size int }{{0, 4000}, {3999, 4000}, {4000, 4001}, {17, 4001}, {4099, count}, {4001, count}, {2048, count}} {
		looksUp(t, fmt.Sprint(x.id), c, b.lines[x.id], b.head(x.size))
	}
	is(t, "whether a far tile was fetched", n.Asked(tileURL("0/x001/024")) > 0, true)
}
