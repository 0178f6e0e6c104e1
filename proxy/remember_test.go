package proxy_test

import (
	"strings"
	"testing"

	"mews/api"
	"mews/net"
	"mews/proxy"
)

// Whatever came of a URL, it stays so, whatever the network has then.
func TestP11_2_RemembersEach(t *testing.T) {
	for _, f := range fates() {
		n := web(t)
		c := client(t, n, "", proxy.Opts{Tries: 3, Patience: 5, Budget: 10}).Remember()
		if f.page != "" {
			lay(t, n, "/p", f.page)
		}
		befall(t, n, "/p", f.faults...)
		for i := range 4 {
			answers(t, f.what, c, call{name: "Fetch", path: "/p"}, f.want)
			asked(t, f.what, n, "/p", f.asked)
			lay(t, n, "/p", strings.Repeat("n", i))
		}
	}
}

// A fault that comes later doesn't change what is remembered either.
func TestP11_2_RemembersBehindFaults(t *testing.T) {
	n := web(t, "/p", "text")
	c := client(t, n, "", usual).Remember()
	fetches(t, "first", c, "/p", "text")
	befall(t, n, "/p", gone(), lost(), lost(), lost(), forged("x"))
	fetches(t, "second", c, "/p", "text")
	asked(t, "both", n, "/p", 1)
	fetchesNot(t, "another URL", c, "/q", api.ErrNone)
	lay(t, n, "/q", "text")
	fetchesNot(t, "another URL again", c, "/q", api.ErrNone)
}

// The first client goes on as it was, and each Remember begins anew.
func TestP11_2_RememberIsAnother(t *testing.T) {
	n := web(t, "/p", "1")
	c := client(t, n, "", usual)
	fetches(t, "the first", c, "/p", "1")
	r := c.Remember()
	is(t, "Total behind Remember", n.Total(), 1)
	lay(t, n, "/p", "2")
	fetches(t, "the second", r, "/p", "2")
	lay(t, n, "/p", "3")
	fetches(t, "the second", r, "/p", "2")
	fetches(t, "the first", c, "/p", "3")
	s, q := c.Remember(), r.Remember()
	is(t, "whether they are several", s != q && s != r && q != r && r != c, true)
	lay(t, n, "/p", "4")
	fetches(t, "of the first", s, "/p", "4")
	lay(t, n, "/p", "5")
	fetches(t, "of the second", q, "/p", "5")
	lay(t, n, "/p", "6")
	fetches(t, "of the first", s, "/p", "4")
	fetches(t, "of the second", q, "/p", "5")
	fetches(t, "the second", r, "/p", "2")
	fetches(t, "the first", c, "/p", "6")
	fetches(t, "the first", c, "/p", "6")
	asked(t, "all", n, "/p", 7)
}

func TestP11_2_RememberHasTheSameOptions(t *testing.T) {
	n := web(t, "/base/p", "12345", "/base/q", "123456", "/base/r", "text", "/base/s", "text", "/base/t", "text", "/p", "wrong")
	befall(t, n, "/base/p", lost(), late(3))
	befall(t, n, "/base/r", lost(), lost(), lost(), lost())
	befall(t, n, "/base/s", late(2))
	befall(t, n, "/base/t", late(3), late(3), late(3))
	c := client(t, n, "/base", proxy.Opts{Tries: 3, Patience: 2, Budget: 5})
	for _, r := range []*proxy.Client{c.Remember(), c.Remember().Remember()} {
		before := n.Asked("/base/r")
		fetches(t, "Budget", r, "/p", "12345")
		fetchesNot(t, "more than Budget", r, "/q", api.ErrBudget)
		if before == 0 {
			fetchesNot(t, "Tries", r, "/r", api.ErrNet)
			asked(t, "Tries", n, "/base/r", 3)
			fetches(t, "Patience", r, "/s", "text")
			fetchesNot(t, "more than Patience", r, "/t", api.ErrNet)
		}
		fetchesNot(t, "base and url too long", r, strings.Repeat("u", api.MaxURL-4), api.ErrLong)
	}
	asked(t, "without the base", n, "/p", 0)
}

// All calls of a client that remembers share what came of a URL.
func TestP11_2_RemembersForEachCall(t *testing.T) {
	m := one()
	for _, x := range each(m) {
		n := web(t)
		honest(t, n, m)
		c := client(t, n, "", usual)
		want := x.does(c)
		isError(t, x.name, want.e, api.OK)
		r, s := c.Remember(), c.Remember()
		fetch := call{name: "Fetch", path: x.url()}
		page := fetch.does(c)
		for range 3 {
			answers(t, "first", r, x, want)
			answers(t, "first a Fetch", s, fetch, page)
			lay(t, n, x.url(), "spoilt")
			answers(t, "behind another call", r, fetch, page)
			answers(t, "behind Fetch", s, x, want)
		}
		asked(t, x.name, n, x.url(), 4)
		is(t, "Total, "+x.name, n.Total(), 4)
	}
}

// Errors are remembered by each call, too: of the network, and of the form.
func TestP11_2_RemembersErrorsForEachCall(t *testing.T) {
	m := one()
	for _, x := range each(m) {
		for _, bad := range []struct {
			fault net.Fault
			want  api.Errno
		}{{gone(), api.ErrNone}, {forged("\x00"), api.ErrReply}, {forged(strings.Repeat("v", 1<<21)), api.ErrBudget}, {lost(), api.ErrNet}} {
			n := web(t)
			honest(t, n, m)
			r := client(t, n, "", proxy.Opts{Tries: 1, Patience: 1, Budget: 1 << 20}).Remember()
			befall(t, n, x.url(), bad.fault)
			for range 3 {
				refuses(t, "remembered", r, x, bad.want)
			}
			asked(t, x.name, n, x.url(), 1)
			isError(t, x.name+", of another client", x.does(r.Remember()).e, api.OK)
		}
	}
}

// Two bases and two texts that make one URL are one URL; each client has its own memory.
func TestP11_2_RemembersByWholeURL(t *testing.T) {
	n := web(t, "/a/b", "1")
	r, s := client(t, n, "/a", usual).Remember(), client(t, n, "", usual).Remember()
	fetches(t, "with a base", r, "/b", "1")
	lay(t, n, "/a/b", "2", "/b", "3", "/a", "4")
	fetches(t, "without", s, "/a/b", "2")
	fetches(t, "another URL", s, "/b", "3")
	fetches(t, "the base alone", r, "", "4")
	fetches(t, "with a base", r, "/b", "1")
	fetchesNot(t, "with a base", r, "/a/b", api.ErrNone)
}
