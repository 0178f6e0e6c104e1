package sumdb_test

import (
	"fmt"
	"math"
	"slices"
	"strings"
	"testing"

	"mews/api"
	"mews/net"
	"mews/note"
	"mews/sumdb"
	"mews/sumfile"
)

// tellPages is pages as one text.
func tellPages(pages []net.Page) string {
	var parts []string
	for _, p := range pages {
		parts = append(parts, p.URL+" "+brief(p.Data))
	}
	return strings.Join(parts, "\n")
}

// laysOut fails the test unless Pages answers what the model does.
func laysOut(t *testing.T, base string, b *book, sizes []int) []net.Page {
	t.Helper()
	what := fmt.Sprint("Pages, ", len(b.lines), " records, ", sizes)
	got, e := sumdb.Pages(base, b.lines, sizes, b.key)
	isError(t, what, e, api.OK)
	want := modelPages(t, base, b, sizes)
	is(t, what+", how many", len(got), len(want))
	for i := range min(len(got), len(want)) {
		is(t, what+", a URL", got[i].URL, want[i].URL)
		is(t, what+", "+want[i].URL, string(got[i].Data), string(want[i].Data))
	}
	return got
}

// laysOutNot fails the test unless Pages answers an error, with nothing beside it.
func laysOutNot(t *testing.T, what string, records [][]sumfile.Line, sizes []int, want api.Errno) {
	t.Helper()
	pages, e := sumdb.Pages(base, records, sizes, key(t))
	isError(t, "Pages, "+what, e, want)
	is(t, "Pages, "+what, tellPages(pages), "")
}

// Each choice of sizes, of logs of a few records.
func TestP12_6_EachChoiceOfSizes(t *testing.T) {
	for count := 1; count <= 7; count++ {
		b := plain(t, count)
		for choice := 1; choice < 1<<count; choice++ {
			var sizes []int
			for i := range count {
				if choice>>i&1 == 1 {
					sizes = append(sizes, i+1)
				}
			}
			laysOut(t, base, b, sizes)
		}
	}
}

func TestP12_6_LongerLogs(t *testing.T) {
	for _, x := range []struct {
		count int
		sizes []int
	}{
		{16, []int{16}}, {17, []int{4, 16, 17}}, {40, upTo(40)}, {70, []int{1, 63, 64, 65, 70}}, {70, []int{1}}, {70, []int{66}}, {300, []int{64, 256, 257, 300}}, {4005, []int{3999, 4004}},
	} {
		laysOut(t, base, plain(t, x.count), x.sizes)
	}
}

func TestP12_6_Bases(t *testing.T) {
	b := plain(t, 5)
	for _, base := range []string{"", "/", "x", "/db/", "\x00\xff", strings.Repeat("b", 1000)} {
		for _, p := range laysOut(t, base, b, []int{3, 5}) {
			is(t, "whether it is behind the base", strings.HasPrefix(p.URL, base+"/"), true)
		}
	}
}

// Modules of any form; and lines turned round, of which the record is the same.
func TestP12_6_Records(t *testing.T) {
	b := plain(t, 0)
	for _, m := range mods() {
		b.lines = append(b.lines, linesOf(m, ""))
		b.texts = append(b.texts, recordOf(linesOf(m, "")))
	}
	want := laysOut(t, base, b, []int{1, 4})
	var turned [][]sumfile.Line
	for _, l := range b.lines {
		turned = append(turned, []sumfile.Line{l[1], l[0]})
	}
	got, e := sumdb.Pages(base, turned, []int{1, 4}, b.key)
	isError(t, "lines turned round", e, api.OK)
	is(t, "lines turned round", tellPages(got), tellPages(want))
}

// Another key signs another note, and nothing else is another one.
func TestP12_6_Keys(t *testing.T) {
	b, other := plain(t, 5), plain(t, 5)
	other.key = newKey(t, strings.Repeat("k", 50), strings.Repeat("s", 64))
	mine, theirs := laysOut(t, base, b, []int{3, 5}), laysOut(t, base, other, []int{3, 5})
	for i := range mine {
		same := string(mine[i].Data) == string(theirs[i].Data)
		is(t, mine[i].URL, same, strings.Contains(mine[i].URL, "/tile/"))
	}
}

// No page is there twice, and a network takes all of them.
func TestP12_6_NoPageTwice(t *testing.T) {
	for _, sizes := range [][]int{upTo(40), {4, 5, 6, 7, 8}, {16, 32, 33}, {40}} {
		pages := laysOut(t, base, plain(t, 40), sizes)
		known := map[string]bool{}
		for _, p := range pages {
			is(t, "whether it was told ahead: "+p.URL, known[p.URL], false)
			known[p.URL] = true
		}
		_, e := net.New(pages, nil)
		isError(t, "net.New", e, api.OK)
	}
}

func TestP12_6_WrongSizes(t *testing.T) {
	b := plain(t, 5)
	for _, sizes := range [][]int{
		nil, {}, {0}, {-1}, {6}, {math.MinInt}, {math.MaxInt}, {0, 5}, {-1, 5}, {5, 5}, {3, 3}, {3, 3, 5}, {5, 3}, {1, 3, 2}, {1, 2, 2, 3}, {3, 5, 6}, {1, 2, 3, 4, 5, 6},
		{5, 4, 3, 2, 1}, {3, 0}, {3, -1}, {3, math.MinInt}, {3, math.MaxInt}, {6, 5}, {api.MaxRecords}, {api.MaxRecords + 1},
	} {
		laysOutNot(t, fmt.Sprint(sizes), b.lines, sizes, api.ErrRange)
	}
	for _, sizes := range [][]int{nil, {0}, {1}, {-1}} {
		laysOutNot(t, fmt.Sprint("no records, ", sizes), nil, sizes, api.ErrRange)
		laysOutNot(t, fmt.Sprint("no records, ", sizes), [][]sumfile.Line{}, sizes, api.ErrRange)
	}
	for _, sizes := range [][]int{{1}, {5}, {1, 5}, {1, 2, 3, 4, 5}} {
		laysOut(t, base, b, sizes)
	}
}

// A record at fault is told by Record's error, be it within a size or not.
func TestP12_6_RecordsAtFault(t *testing.T) {
	for _, x := range wrongRecords() {
		for place := range 4 {
			records := slices.Insert(slices.Clone(plain(t, 3).lines), place, x.l)
			for _, sizes := range [][]int{{1}, {4}, {2, 4}, nil, {0}, {5}} {
				laysOutNot(t, fmt.Sprint(x.what, " at ", place, ", ", sizes), records, sizes, x.want)
			}
		}
	}
}

// Of several the first counts.
func TestP12_6_FirstAtFault(t *testing.T) {
	wrong := wrongRecords()
	good := plain(t, 2).lines
	for i, x := range wrong {
		y := wrong[(i+7)%len(wrong)]
		laysOutNot(t, x.what+" ahead of "+y.what, [][]sumfile.Line{good[0], x.l, good[1], y.l}, []int{4}, x.want)
		laysOutNot(t, y.what+" ahead of "+x.what, [][]sumfile.Line{y.l, x.l}, nil, y.want)
	}
}

func TestP12_6_TwoOfOneModule(t *testing.T) {
	b := plain(t, 4)
	for at := range 4 {
		for place := range 5 {
			for _, says := range []string{"", "other sums"} {
				records := slices.Insert(slices.Clone(b.lines), place, linesOf(modOf(at), says))
				for _, sizes := range [][]int{{1}, {5}, {1, 2, 3}} {
					laysOutNot(t, "twice", records, sizes, api.ErrThere)
				}
				for _, sizes := range [][]int{nil, {0}, {6}, {2, 2}} {
					laysOutNot(t, "twice, wrong sizes", records, sizes, api.ErrRange)
				}
				broken := append(slices.Clone(records), b.lines[0][:1])
				laysOutNot(t, "twice, a record at fault", broken, []int{1}, api.ErrForm)
			}
		}
	}
	// What differs in version, or in case, is another module.
	near := [][]sumfile.Line{linesOf(modOf(0), ""), linesOf(at("a.b/m0", "v1.0.1"), ""), linesOf(at("a.b/M0", "v1.0.0"), ""), linesOf(at("a.b/m0", "v1.0.0-a"), ""), linesOf(at("a.b/m0", "v1.0.0-A"), "")}
	_, e := sumdb.Pages(base, near, []int{5}, key(t))
	isError(t, "near", e, api.OK)
}

// Of more records than may be there is no log, whatever else is wrong.
func TestP12_6_TooManyRecords(t *testing.T) {
	records := slices.Repeat([][]sumfile.Line{linesOf(modOf(0), "")}, api.MaxRecords+1)
	laysOutNot(t, "too many", records, nil, api.ErrMany)
}

// Pages hang on what is handed in alone.
func TestP12_6_Again(t *testing.T) {
	b := plain(t, 21)
	want := tellPages(laysOut(t, base, b, []int{1, 5, 20}))
	for range 20 {
		is(t, "again", tellPages(laysOut(t, base, b, []int{1, 5, 20})), want)
	}
}

// The heads are those that note opens, of the log that tlog makes.
func TestP12_6_Notes(t *testing.T) {
	b := plain(t, 9)
	pages := laysOut(t, base, b, []int{3, 4, 9})
	for id, size := range []int{3, 3, 3, 4, 9, 9, 9, 9, 9, 9} {
		signed := string(pages[id].Data)
		if id < 9 {
			number, record, s, e := sumdb.ParseLookup(pages[id].Data)
			isError(t, "ParseLookup", e, api.OK)
			is(t, "the number", number, id)
			is(t, "the record", string(record), b.texts[id])
			signed = s
		}
		opened, e := note.Open(signed, []note.Key{key(t)})
		isError(t, "Open", e, api.OK)
		h, e := note.ParseHead(opened.Text)
		isError(t, "ParseHead", e, api.OK)
		is(t, fmt.Sprint("the head of page ", id), tellHead(h), tellHead(b.head(size)))
	}
}
