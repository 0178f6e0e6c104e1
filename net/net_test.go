package net_test

import (
	"bytes"
	"fmt"
	"math"
	"slices"
	"testing"

	"mews/api"
	"mews/net"
)

func TestExamples(t *testing.T) {
	n := made(t, one("/a", "abc"),
		net.Fault{URL: "/a", Attempt: 1, Kind: net.FDrop},
		net.Fault{URL: "/a", Attempt: 2, Kind: net.FCut, N: 2},
		net.Fault{URL: "/a", Attempt: 3, Kind: net.FFlip, N: 8},
		net.Fault{URL: "/a", Attempt: 4, Kind: net.FLate, N: 9},
		net.Fault{URL: "/b", Attempt: 1, Kind: net.FForge, Data: []byte("x")})
	gets(t, n, "/a", answer{0, "", 1}, page("ab"), page("acc"), answer{200, "abc", 9}, page("abc"))
	gets(t, n, "/b", page("x"), gone)
	is(t, "Asked", n.Asked("/a"), 5)
	is(t, "Total", n.Total(), 7)
	is(t, "URLs", fmt.Sprint(n.URLs()), "[/a /b]")
	is(t, "Add of attempt 0", n.Add(net.Fault{URL: "/a", Attempt: 0, Kind: net.FDrop}), api.ErrRange)
	is(t, "Add of one more", n.Add(net.Fault{URL: "/b", Attempt: 1, Kind: net.FDrop}), api.ErrThere)
	is(t, "Add of kind 8", n.Add(net.Fault{URL: "/a", Attempt: 9, Kind: 8}), api.ErrKind)
}

func TestKindsHaveTheirNumbers(t *testing.T) {
	is(t, "kinds", fmt.Sprint(net.FDrop, net.FCut, net.FFlip, net.FForge, net.FLate, net.FGone, net.FBusy), "1 2 3 4 5 6 7")
}

func TestP2_1_NewAsksPages(t *testing.T) {
	bad := net.Fault{URL: "/a", Attempt: 1}
	for _, c := range []struct {
		what  string
		pages []net.Page
		want  api.Errno
	}{
		{"no page", nil, api.ErrKind},
		{"empty URL", []net.Page{{}}, api.ErrLong},
		{"longest URL", []net.Page{{URL: long(api.MaxURL)}}, api.ErrKind},
		{"too long URL", []net.Page{{URL: long(api.MaxURL + 1)}}, api.ErrLong},
		{"much too long URL", []net.Page{{URL: long(1 << 20)}}, api.ErrLong},
		{"bytes, not runes, are counted", []net.Page{{URL: long(api.MaxURL-1) + "é"}}, api.ErrLong},
		{"twice", []net.Page{{URL: "/a"}, {URL: "/a"}}, api.ErrThere},
		{"twice, apart", []net.Page{{URL: "/a"}, {URL: "/b"}, {URL: "/a", Data: []byte("x")}}, api.ErrThere},
		{"apart by case", []net.Page{{URL: "/a"}, {URL: "/A"}, {URL: "/a/"}}, api.ErrKind},
		{"long URL twice", []net.Page{{URL: long(401)}, {URL: long(401)}}, api.ErrLong},
		{"twice, then long", []net.Page{{URL: "/a"}, {URL: "/a"}, {}}, api.ErrThere},
		{"long, then twice", []net.Page{{URL: "/a"}, {}, {URL: "/a"}}, api.ErrLong},
	} {
		n, e := net.New(c.pages, []net.Fault{bad})
		is(t, c.what, e, c.want)
		is(t, c.what+": a network beside the error", n != nil, false)
	}
}

// faultCases are faults for a network that has one of /a, attempt 2.
var faultCases = []struct {
	what  string
	fault net.Fault
	want  api.Errno
}{
	{"right", net.Fault{URL: "/a", Attempt: 1, Kind: net.FDrop}, api.OK},
	{"first kind below", net.Fault{URL: "/a", Attempt: 1, Kind: 0}, api.ErrKind},
	{"kind below 0", net.Fault{URL: "/a", Attempt: 1, Kind: -1}, api.ErrKind},
	{"least kind", net.Fault{URL: "/a", Attempt: 1, Kind: math.MinInt}, api.ErrKind},
	{"last kind", net.Fault{URL: "/a", Attempt: 1, Kind: net.FBusy}, api.OK},
	{"first kind above", net.Fault{URL: "/a", Attempt: 1, Kind: 8}, api.ErrKind},
	{"greatest kind", net.Fault{URL: "/a", Attempt: 1, Kind: math.MaxInt}, api.ErrKind},
	{"attempt 0", net.Fault{URL: "/a", Attempt: 0, Kind: net.FDrop}, api.ErrRange},
	{"attempt below 0", net.Fault{URL: "/a", Attempt: -1, Kind: net.FDrop}, api.ErrRange},
	{"least attempt", net.Fault{URL: "/a", Attempt: math.MinInt, Kind: net.FDrop}, api.ErrRange},
	{"greatest attempt", net.Fault{URL: "/a", Attempt: math.MaxInt, Kind: net.FDrop}, api.OK},
	{"N below 0", net.Fault{URL: "/a", Attempt: 1, Kind: net.FCut, N: -1}, api.ErrRange},
	{"least N", net.Fault{URL: "/a", Attempt: 1, Kind: net.FCut, N: math.MinInt}, api.ErrRange},
	{"N below 0 where the kind has none", net.Fault{URL: "/a", Attempt: 1, Kind: net.FDrop, N: -1}, api.ErrRange},
	{"N 0", net.Fault{URL: "/a", Attempt: 1, Kind: net.FCut, N: 0}, api.OK},
	{"greatest N", net.Fault{URL: "/a", Attempt: 1, Kind: net.FFlip, N: math.MaxInt}, api.OK},
	{"there", net.Fault{URL: "/a", Attempt: 2, Kind: net.FDrop}, api.ErrThere},
	{"there, of another kind", net.Fault{URL: "/a", Attempt: 2, Kind: net.FLate, N: 5, Data: []byte("d")}, api.ErrThere},
	{"that attempt of another URL", net.Fault{URL: "/b", Attempt: 2, Kind: net.FDrop}, api.OK},
	{"another attempt of that URL", net.Fault{URL: "/a", Attempt: 3, Kind: net.FDrop}, api.OK},
	{"longest URL", net.Fault{URL: long(api.MaxURL), Attempt: 1, Kind: net.FDrop}, api.OK},
	{"empty URL", net.Fault{URL: "", Attempt: 1, Kind: net.FDrop}, api.ErrLong},
	{"too long URL", net.Fault{URL: long(api.MaxURL + 1), Attempt: 1, Kind: net.FDrop}, api.ErrLong},
	{"URL ahead of kind", net.Fault{URL: "", Attempt: 1, Kind: 8}, api.ErrLong},
	{"URL ahead of attempt", net.Fault{URL: long(401), Attempt: 0, Kind: net.FDrop}, api.ErrLong},
	{"URL ahead of N", net.Fault{URL: long(401), Attempt: 1, Kind: net.FDrop, N: -1}, api.ErrLong},
	{"URL ahead of all", net.Fault{URL: "", Attempt: -1, Kind: 0, N: -1}, api.ErrLong},
	{"kind ahead of attempt", net.Fault{URL: "/a", Attempt: 0, Kind: 8}, api.ErrKind},
	{"kind ahead of N", net.Fault{URL: "/a", Attempt: 1, Kind: 0, N: -1}, api.ErrKind},
	{"kind ahead of there", net.Fault{URL: "/a", Attempt: 2, Kind: 8}, api.ErrKind},
	{"kind ahead of N and there", net.Fault{URL: "/a", Attempt: 2, Kind: 8, N: -1}, api.ErrKind},
	{"N ahead of there", net.Fault{URL: "/a", Attempt: 2, Kind: net.FDrop, N: -1}, api.ErrRange},
}

func TestP2_1_Add(t *testing.T) {
	first := net.Fault{URL: "/a", Attempt: 2, Kind: net.FBusy}
	for _, c := range faultCases {
		n := made(t, nil, first)
		is(t, "Add: "+c.what, n.Add(c.fault), c.want)
		again := c.want
		if again == api.OK {
			again = api.ErrThere
		}
		is(t, "Add again: "+c.what, n.Add(c.fault), again)
		is(t, "requests of Add", counts(n), "0")
	}
}

func TestP2_1_NewAsksFaultsAsAdd(t *testing.T) {
	first := net.Fault{URL: "/a", Attempt: 2, Kind: net.FBusy}
	for _, c := range faultCases {
		n, e := net.New(one("/a", "abc"), []net.Fault{first, c.fault})
		is(t, "New: "+c.what, e, c.want)
		is(t, "New: "+c.what+": a network", n != nil, c.want == api.OK)
	}
	long, kind := net.Fault{}, net.Fault{URL: "/a"}
	_, e := net.New(nil, []net.Fault{first, kind, long})
	is(t, "the first wrong fault is told", e, api.ErrKind)
	_, e = net.New(nil, []net.Fault{first, long, kind, first})
	is(t, "the first wrong fault is told", e, api.ErrLong)
}

func TestP2_1_NewWasAskedNothing(t *testing.T) {
	n := made(t, one("/a", "abc"), net.Fault{URL: "/b", Attempt: 1, Kind: net.FDrop})
	is(t, "Total", n.Total(), 0)
	is(t, "Asked of a page", n.Asked("/a"), 0)
	is(t, "Asked of a fault", n.Asked("/b"), 0)
	is(t, "URLs", len(n.URLs()), 0)
}

func TestP2_1_Set(t *testing.T) {
	n := made(t, one("/a", "old"))
	is(t, "empty URL", n.Set("", []byte("x")), api.ErrLong)
	is(t, "too long URL", n.Set(long(api.MaxURL+1), []byte("x")), api.ErrLong)
	is(t, "longest URL", n.Set(long(api.MaxURL), []byte("far")), api.OK)
	is(t, "requests of Set", counts(n), "0")
	gets(t, n, "", gone)
	gets(t, n, long(api.MaxURL+1), gone)
	gets(t, n, long(api.MaxURL), page("far"))
	gets(t, n, "/a", page("old"))
	is(t, "a page that is there", n.Set("/a", []byte("newer")), api.OK)
	gets(t, n, "/a", page("newer"), page("newer"))
	gets(t, n, "/b", gone)
	is(t, "a page that was not there", n.Set("/b", []byte("b")), api.OK)
	gets(t, n, "/b", page("b"))
	is(t, "a page without bytes", n.Set("/b", nil), api.OK)
	is(t, "the same again", n.Set("/b", []byte{}), api.OK)
	gets(t, n, "/b", page(""))
	gets(t, n, "/a", page("newer"))
}

func TestP2_1_SetKeepsFaultsAndCounts(t *testing.T) {
	n := made(t, one("/a", "old"), net.Fault{URL: "/a", Attempt: 2, Kind: net.FBusy}, net.Fault{URL: "/a", Attempt: 4, Kind: net.FCut, N: 1})
	gets(t, n, "/a", page("old"))
	is(t, "Set", n.Set("/a", []byte("new")), api.OK)
	is(t, "Asked", n.Asked("/a"), 1)
	gets(t, n, "/a", answer{503, "", 1}, page("new"), page("n"), page("new"))
}

func TestP2_1_ErrorsChangeNothing(t *testing.T) {
	n := made(t, one("/a", "abc"), net.Fault{URL: "/a", Attempt: 2, Kind: net.FBusy})
	for _, c := range faultCases {
		if c.want != api.OK {
			n.Add(c.fault)
		}
	}
	n.Set("", []byte("x"))
	gets(t, n, "/a", page("abc"), answer{503, "", 1}, page("abc"), page("abc"))
	gets(t, n, "", gone, gone)
	gets(t, n, "/b", gone, gone)
}

func TestP2_1_AddBetweenRequests(t *testing.T) {
	n := made(t, one("/a", "abc"))
	gets(t, n, "/a", page("abc"), page("abc"))
	for _, attempt := range []int{1, 2, 3} {
		is(t, "Add", n.Add(net.Fault{URL: "/a", Attempt: attempt, Kind: net.FBusy}), api.OK)
	}
	gets(t, n, "/a", answer{503, "", 1}, page("abc"))
	for _, attempt := range []int{1, 2, 3} {
		is(t, "Add of one that is past", n.Add(net.Fault{URL: "/a", Attempt: attempt, Kind: net.FDrop}), api.ErrThere)
	}
}

// kindCases is what the first request of a page `ab` gets, and that of no page.
var kindCases = []struct {
	kind, n       int
	with, without answer
}{
	{net.FDrop, 0, answer{0, "", 1}, answer{0, "", 1}},
	{net.FDrop, 7, answer{0, "", 1}, answer{0, "", 1}},
	{net.FCut, 0, page(""), gone},
	{net.FCut, 1, page("a"), gone},
	{net.FCut, 2, page("ab"), gone},
	{net.FCut, 3, page("ab"), gone},
	{net.FCut, math.MaxInt, page("ab"), gone},
	{net.FFlip, 0, page("`b"), gone},
	{net.FFlip, 1, page("cb"), gone},
	{net.FFlip, 7, page("\xe1b"), gone},
	{net.FFlip, 8, page("ac"), gone},
	{net.FFlip, 15, page("a\xe2"), gone},
	{net.FFlip, 16, page("ab"), gone},
	{net.FFlip, math.MaxInt, page("ab"), gone},
	{net.FForge, 0, page("forged"), page("forged")},
	{net.FForge, 2, page("forged"), page("forged")},
	{net.FLate, 0, answer{200, "ab", 0}, gone},
	{net.FLate, 1, page("ab"), gone},
	{net.FLate, 9, answer{200, "ab", 9}, gone},
	{net.FLate, math.MaxInt, answer{200, "ab", math.MaxInt}, gone},
	{net.FGone, 0, gone, gone},
	{net.FGone, 1, gone, gone},
	{net.FBusy, 0, answer{503, "", 1}, answer{503, "", 1}},
	{net.FBusy, 1, answer{503, "", 1}, answer{503, "", 1}},
}

func TestP2_2_Kinds(t *testing.T) {
	for _, c := range kindCases {
		f := net.Fault{URL: "/a", Attempt: 1, Kind: c.kind, N: c.n, Data: []byte("forged")}
		what := fmt.Sprintf("kind %d, N %d", c.kind, c.n)
		n := made(t, one("/a", "ab"), f)
		is(t, what, seen(n.Get("/a")), c.with)
		is(t, what+", behind it", seen(n.Get("/a")), page("ab"))
		n = made(t, one("/b", "ab"), f)
		is(t, what+", no page", seen(n.Get("/a")), c.without)
		is(t, what+", no page, behind it", seen(n.Get("/a")), gone)
	}
}

func TestP2_2_KindsOfAPageWithoutBytes(t *testing.T) {
	want := []answer{{0, "", 1}, page(""), page(""), page("f"), {200, "", 4}, gone, {503, "", 1}}
	for i, w := range want {
		f := net.Fault{URL: "/a", Attempt: 1, Kind: net.FDrop + i, N: 4, Data: []byte("f")}
		n := made(t, []net.Page{{URL: "/a"}}, f)
		is(t, fmt.Sprintf("kind %d", f.Kind), seen(n.Get("/a")), w)
		is(t, "behind it", seen(n.Get("/a")), page(""))
	}
	n := made(t, nil, net.Fault{URL: "/a", Attempt: 1, Kind: net.FForge})
	gets(t, n, "/a", page(""), gone)
}

func TestP2_2_EveryBit(t *testing.T) {
	text := []byte{0x00, 0xff, 0x5a}
	for bit := range 24 {
		n := made(t, []net.Page{{URL: "/a", Data: text}}, net.Fault{URL: "/a", Attempt: 1, Kind: net.FFlip, N: bit})
		want := bytes.Clone(text)
		want[bit/8] ^= byte(1) << (bit % 8)
		gets(t, n, "/a", page(string(want)), page(string(text)))
	}
}

// A fault meets the page that stands there at the request, not at its Add.
func TestP2_2_FaultsMeetTheLatestPage(t *testing.T) {
	n := made(t, nil, net.Fault{URL: "/a", Attempt: 1, Kind: net.FCut, N: 1}, net.Fault{URL: "/a", Attempt: 2, Kind: net.FFlip, N: 0}, net.Fault{URL: "/a", Attempt: 3, Kind: net.FLate, N: 3})
	n.Set("/a", []byte("ab"))
	gets(t, n, "/a", page("a"))
	n.Set("/a", []byte("bb"))
	gets(t, n, "/a", page("cb"))
	n.Set("/a", []byte("c"))
	gets(t, n, "/a", answer{200, "c", 3}, page("c"))
}

func TestP2_2_AttemptsCountFromOneByURL(t *testing.T) {
	n := made(t, append(one("/a", "a"), one("/b", "b")...),
		net.Fault{URL: "/a", Attempt: 3, Kind: net.FBusy}, net.Fault{URL: "/b", Attempt: 2, Kind: net.FGone})
	gets(t, n, "/a", page("a"))
	gets(t, n, "/b", page("b"))
	gets(t, n, "/a", page("a"))
	gets(t, n, "/c", gone)
	gets(t, n, "/a", answer{503, "", 1}, page("a"))
	gets(t, n, "/b", gone, page("b"))
}

func TestP2_2_AnyURLMayBeAsked(t *testing.T) {
	n := made(t, one("/a", "a"))
	for _, url := range []string{"", long(api.MaxURL + 1), long(1 << 16), "\x00", "\xff\xfe", "/A", "/a/"} {
		gets(t, n, url, gone, gone)
		is(t, "Asked", n.Asked(url), 2)
	}
	is(t, "Total", n.Total(), 14)
}

func TestP2_3(t *testing.T) {
	n := made(t, append(one("/b", "b"), one("/never", "n")...),
		net.Fault{URL: "/d", Attempt: 1, Kind: net.FDrop}, net.Fault{URL: "/unmet", Attempt: 1, Kind: net.FDrop})
	for _, url := range []string{"/d", "/b", "/é", "/b", "", "/B", "/b/a", "/b", "\xff", "/d"} {
		n.Get(url)
	}
	is(t, "URLs", fmt.Sprintf("%q", n.URLs()), `["" "/B" "/b" "/b/a" "/d" "/é" "\xff"]`)
	for url, want := range map[string]int{"": 1, "/B": 1, "/b": 3, "/b/a": 1, "/d": 2, "/é": 1, "\xff": 1, "/never": 0, "/unmet": 0, "/none": 0} {
		is(t, "Asked of "+url, n.Asked(url), want)
	}
	is(t, "Total", n.Total(), 10)
}

func TestP2_3_AskingForCountsIsNoRequest(t *testing.T) {
	n := made(t, one("/a", "a"))
	gets(t, n, "/a", page("a"))
	for range 3 {
		n.Asked("/a")
		n.Asked("/b")
		n.Total()
		n.URLs()
		n.Set("/c", nil)
		n.Add(net.Fault{URL: "/d", Attempt: 1, Kind: net.FDrop})
	}
	is(t, "counts", counts(n), `"/a" 1, 1`)
}

// roomy is a text with spare room that holds `spare`.
func roomy(text string) []byte { return append([]byte(text), "spare"...)[:len(text)] }

// spared is what lies behind the length.
func spared(data []byte) string { return string(data[len(data) : len(data)+5]) }

func TestP2_4_WhatIsHandedInIsNeitherChangedNorKept(t *testing.T) {
	a, b, set, forged, added := roomy("aaa"), roomy("bbb"), roomy("set"), roomy("forged"), roomy("added")
	pages := append(make([]net.Page, 0, 3), net.Page{URL: "/a", Data: a}, net.Page{URL: "/b", Data: b})
	pages[:3][2] = net.Page{URL: "/a", Data: []byte("behind")}
	faults := append(make([]net.Fault, 0, 3), net.Fault{URL: "/a", Attempt: 1, Kind: net.FForge, Data: forged}, net.Fault{URL: "/a", Attempt: 3, Kind: net.FFlip, N: 0})
	faults[:3][2] = net.Fault{}
	n := made(t, pages, faults...)
	n.Set("/s", set)
	n.Add(net.Fault{URL: "/a", Attempt: 2, Kind: net.FForge, Data: added})

	n2 := made(t, pages, faults...)
	n2.Set("/s", set)
	n2.Add(net.Fault{URL: "/a", Attempt: 2, Kind: net.FForge, Data: added})
	for _, url := range []string{"/a", "/a", "/a", "/b", "/s"} {
		clear(n2.Get(url).Data)
	}
	is(t, "handed in", fmt.Sprintf("%s %s %s %s %s", a, b, set, forged, added), "aaa bbb set forged added")
	for _, data := range [][]byte{a, b, set, forged, added} {
		is(t, "spare room", spared(data), "spare")
		clear(data[:cap(data)])
	}
	is(t, "page behind the length", string(pages[:3][2].Data), "behind")
	clear(pages)
	clear(faults)
	gets(t, n, "/a", page("forged"), page("added"), page("`aa"), page("aaa"))
	gets(t, n, "/b", page("bbb"))
	gets(t, n, "/s", page("set"))
}

func TestP2_4_AnswersAreNewMemory(t *testing.T) {
	kinds := []net.Fault{
		{URL: "/a", Attempt: 1, Kind: net.FCut, N: 2},
		{URL: "/a", Attempt: 2, Kind: net.FFlip, N: 0},
		{URL: "/a", Attempt: 3, Kind: net.FLate, N: 2},
		{URL: "/a", Attempt: 4, Kind: net.FForge, Data: []byte("forged")},
	}
	want := []answer{page("ab"), page("`bc"), {200, "abc", 2}, page("forged"), page("abc"), page("abc")}
	n := made(t, one("/a", "abc"), kinds...)
	var kept []net.Answer
	for i, w := range want {
		kept = append(kept, n.Get("/a"))
		is(t, "answer", seen(kept[i]), w)
	}
	for i := range kept {
		data := kept[i].Data
		before := string(data)
		scribble(data[:cap(data)])
		for j := range kept {
			if j != i {
				is(t, "another answer behind a write", seen(kept[j]), want[j])
			}
		}
		gets(t, n, "/a", page("abc"))
		copy(data, before)
	}
}

func scribble(data []byte) {
	for i := range data {
		data[i] = '#'
	}
}

func TestP2_4_URLsAreNewMemory(t *testing.T) {
	n := made(t, nil)
	for _, url := range []string{"/a", "/b", "/c"} {
		n.Get(url)
	}
	first, second := n.URLs(), n.URLs()
	for i := range first[:cap(first)] {
		first[:cap(first)][i] = "#"
	}
	is(t, "another list", fmt.Sprint(second), "[/a /b /c]")
	is(t, "a later list", fmt.Sprint(n.URLs()), "[/a /b /c]")
	second = append(second, "/d")
	is(t, "a list behind an append", fmt.Sprint(n.URLs()), "[/a /b /c]")
	is(t, "Asked", n.Asked("#")+n.Asked("/d"), 0)
	is(t, "order", slices.IsSorted(n.URLs()), true)
}
