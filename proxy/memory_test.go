package proxy_test

import (
	"slices"
	"strings"
	"testing"

	"mews/api"
	"mews/net"
	"mews/proxy"
)

// The marks that lie behind lists, and that are written into answers.
const (
	roomByte   = 0xa5
	spoiltByte = 0x5a
)

// roomy is the list with spare room behind it, filled with a mark.
func roomy[T any](list []T, mark T) []T {
	whole := slices.Clone(list)
	for range 100 {
		whole = append(whole, mark)
	}
	return whole[:len(list)]
}

// whole is the list with what lies behind it.
func whole[T any](list []T) []T { return list[:cap(list)] }

// spoil writes into all the memory of a list.
func spoil[T any](list []T, mark T) {
	for i := range whole(list) {
		whole(list)[i] = mark
	}
	_ = append(list, mark, mark)
}

// spoilFiles writes into all the memory of files, their bytes first.
func spoilFiles(files []api.File) {
	for _, f := range files {
		spoil(f.Data, spoiltByte)
	}
	spoil(files, file("spoilt", "spoilt"))
}

func TestP11_7_BytesHandedIn(t *testing.T) {
	for _, text := range []string{goodInfo, goodInfo[:len(goodInfo)-1], goodInfo[:len(goodInfo)-2], "", "{}"} {
		// What lies behind the bytes would make an info of some that are none.
		room := []byte(text + goodInfo[min(len(text), len(goodInfo)):] + strings.Repeat("x", 50))
		given := room[:len(text)]
		before := string(room)
		i, e := proxy.ParseInfo(given)
		want, ok := modelInfo(text)
		is(t, "whether ParseInfo takes "+text, e == api.OK, ok)
		is(t, "what was handed in", string(room), before)
		spoil(room, spoiltByte)
		is(t, "the info, what was handed in spoilt", i, want)
		is(t, "the info, what was handed in spoilt", strings.Clone(i.Version+i.Time), want.Version+want.Time)
	}
}

// apart fails the test unless what is written into an answer is seen neither
// by another one, nor by one that is asked for later.
func apart[T any](t *testing.T, what string, ask func() T, ruin func(T), tell func(T) string) {
	t.Helper()
	first, second := ask(), ask()
	want := tell(second)
	is(t, what+", the two", tell(first), want)
	is(t, what+", whether it is any", want != "", true)
	ruin(first)
	is(t, what+", the other answer", tell(second), want)
	third := ask()
	is(t, what+", asked again", tell(third), want)
	ruin(second)
	is(t, what+", asked again, the other one spoilt", tell(third), want)
}

func tellBytes(b []byte) string { return string(b) }

func spoilBytes(b []byte) { spoil(b, spoiltByte) }

func TestP11_7_ListsHandedOut(t *testing.T) {
	m := one()
	clients(t, usual, func(t *testing.T, n *net.Net, c *proxy.Client) {
		honest(t, n, m)
		lay(t, n, call{name: "List", path: m.Path}.url(), "v1.0.0\nv0.1.0\nv0.1.0\nv0.2.0\nx\n")
		apart(t, "Fetch", func() []byte { b, _ := c.Fetch("/a.b/c/@v/list"); return b }, spoilBytes, tellBytes)
		apart(t, "List", func() []string { l, _ := c.List(m.Path); return l },
			func(l []string) { spoil(l, "spoilt") }, func(l []string) string { return strings.Join(l, " ") })
		apart(t, "Manifest", func() []byte { b, _ := c.Manifest(m); return b }, spoilBytes, tellBytes)
		apart(t, "Zip, its bytes", func() []byte { b, _, _ := c.Zip(m); return b }, spoilBytes, tellBytes)
		apart(t, "Zip, its files", func() []api.File { _, l, _ := c.Zip(m); return l }, spoilFiles, told)
		for _, x := range each(m) {
			isError(t, x.name+" of another client", x.does(c.Remember()).e, api.OK)
		}
	})
	apart(t, "FormatInfo", func() []byte { return proxy.FormatInfo(proxy.Info{Version: "v1.0.0", Time: "x"}) }, spoilBytes, tellBytes)
}

// What one call of Fetch tells, another call that reads the same page doesn't
// see spoilt.
func TestP11_7_AcrossCalls(t *testing.T) {
	m := one()
	for _, x := range each(m) {
		clients(t, usual, func(t *testing.T, n *net.Net, c *proxy.Client) {
			honest(t, n, m)
			b, e := c.Fetch(x.url())
			done(t, e)
			page := string(b)
			spoilBytes(b)
			want := x.does(client(t, n, "", usual))
			answers(t, "Fetch's answer spoilt", c, x, want)
			if x.name == "Manifest" {
				b, _ = c.Manifest(m)
				spoilBytes(b)
			}
			if x.name == "Zip" {
				var files []api.File
				b, files, _ = c.Zip(m)
				spoilBytes(b)
				spoilFiles(files)
			}
			fetches(t, "all answers spoilt", c, x.url(), page)
			answers(t, "all answers spoilt", c, x, want)
		})
	}
}

// No two lists of one answer share memory, spare room too.
func TestP11_7_WithinAnAnswer(t *testing.T) {
	m := one()
	clients(t, usual, func(t *testing.T, n *net.Net, c *proxy.Client) {
		honest(t, n, m)
		b, files, e := c.Zip(m)
		done(t, e)
		is(t, "how many files", len(files), 3)
		lists := [][]byte{b}
		for _, f := range files {
			lists = append(lists, f.Data)
		}
		for i := range lists {
			before := texts(lists)
			kept := string(lists[i])
			spoil(lists[i], spoiltByte)
			before[i] = string(lists[i])
			is(t, "the other lists", strings.Join(texts(lists), "|"), strings.Join(before, "|"))
			copy(lists[i], kept)
		}
	})
}

// texts is lists of bytes as texts.
func texts(lists [][]byte) []string {
	var l []string
	for _, b := range lists {
		l = append(l, string(b))
	}
	return l
}

// The network's pages are not changed by what is written into answers, nor is
// what a client that remembers tells by what is written to the network.
func TestP11_7_ThePagesStay(t *testing.T) {
	data := roomy([]byte("text"), roomByte)
	n, e := net.New([]net.Page{{URL: "/p", Data: data}}, nil)
	done(t, e)
	c := client(t, n, "", usual)
	r := c.Remember()
	for range 3 {
		for _, c := range []*proxy.Client{c, r} {
			b, e := c.Fetch("/p")
			done(t, e)
			is(t, "Fetch", string(b), "text")
			spoilBytes(b)
		}
		is(t, "the page", string(n.Get("/p").Data), "text")
	}
	lay(t, n, "/p", "TEXT")
	fetches(t, "remembered", r, "/p", "text")
	fetches(t, "not remembered", c, "/p", "TEXT")
}
