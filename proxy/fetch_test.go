package proxy_test

import (
	"fmt"
	"math"
	"strings"
	"testing"

	"mews/api"
	"mews/net"
	"mews/proxy"
)

func TestP11_2_Lengths(t *testing.T) {
	for _, base := range []string{"", "b", strings.Repeat("b", 40)} {
		for _, whole := range []int{1, 2, 40, 41, api.MaxURL - 1, api.MaxURL} {
			if whole < len(base) {
				continue
			}
			url := strings.Repeat("u", whole-len(base))
			n := web(t, base+url, "text")
			what := fmt.Sprint(len(base), " and ", len(url), " bytes")
			fetches(t, what, client(t, n, base, usual), url, "text")
			fetches(t, what, client(t, n, base, usual).Remember(), url, "text")
			asked(t, what, n, base+url, 2)
		}
	}
}

func TestP11_2_WrongLengths(t *testing.T) {
	for _, base := range []string{"", "b", strings.Repeat("b", 40)} {
		urls := []string{strings.Repeat("u", api.MaxURL-len(base)+1), strings.Repeat("u", api.MaxURL+1), strings.Repeat("u", 1<<20)}
		if base == "" {
			urls = append(urls, "")
		}
		for _, url := range urls {
			n := web(t)
			c := client(t, n, base, usual)
			r := c.Remember()
			what := fmt.Sprint(len(base), " and ", len(url), " bytes")
			for range 2 {
				fetchesNot(t, what, c, url, api.ErrLong)
				fetchesNot(t, what, r, url, api.ErrLong)
			}
			is(t, "Total, "+what, n.Total(), 0)
		}
	}
}

// A URL is bytes, whatever they say.
func TestP11_2_AnyURL(t *testing.T) {
	for _, url := range []string{"/", "//", "a b", "\x00", "\xff\xfe", "é", "\n", "/A", "/a", "../x", "http://x.y/z?q#f"} {
		n := web(t, "b"+url, "text of "+url)
		fetches(t, brief(url), client(t, n, "b", usual), url, "text of "+url)
		fetches(t, brief(url), client(t, n, "b", usual).Remember(), url, "text of "+url)
		fetchesNot(t, brief(url), client(t, n, "", usual), url, api.ErrNone)
	}
}

// fate is what befalls the first requests of a page, and what Fetch makes of it.
type fate struct {
	what   string
	page   string // none, if it is empty
	faults []net.Fault
	want   answer
	asked  int
}

// fates is of a client with the options 3, 5, 10.
func fates() []fate {
	just, more := "0123456789", "0123456789x"
	text := answer{"text", api.OK}
	none, net1, budget := answer{e: api.ErrNone}, answer{e: api.ErrNet}, answer{e: api.ErrBudget}
	list := func(l ...net.Fault) []net.Fault { return l }
	return []fate{
		{"honest", "text", nil, text, 1},
		{"no page", "", nil, none, 1},
		{"just Budget", just, nil, answer{just, api.OK}, 1},
		{"more than Budget", more, nil, budget, 1},
		{"just Patience", "text", list(late(5)), text, 1},
		{"less than Patience", "text", list(late(4)), text, 1},
		{"no ticks", "text", list(late(0)), text, 1},
		{"late", "text", list(late(6)), text, 2},
		{"very late", "text", list(late(math.MaxInt)), text, 2},
		{"late twice", "text", list(late(6), late(7)), text, 3},
		{"late thrice", "text", list(late(6), late(6), late(6)), net1, 3},
		{"late four times", "text", list(late(6), late(6), late(6), late(6)), net1, 3},
		{"late where no page is", "", list(late(6)), none, 1},
		{"lost", "text", list(lost()), text, 2},
		{"lost twice", "text", list(lost(), lost()), text, 3},
		{"lost thrice", "text", list(lost(), lost(), lost()), net1, 3},
		{"lost four times", "text", list(lost(), lost(), lost(), lost()), net1, 3},
		{"lost where no page is", "", list(lost()), none, 2},
		{"lost thrice where no page is", "", list(lost(), lost(), lost()), net1, 3},
		{"busy", "text", list(busy()), text, 2},
		{"busy twice", "text", list(busy(), busy()), text, 3},
		{"busy thrice", "text", list(busy(), busy(), busy()), net1, 3},
		{"of each kind", "text", list(busy(), late(6), lost()), net1, 3},
		{"of two kinds", "text", list(late(6), busy()), text, 3},
		{"gone", "text", list(gone()), none, 1},
		{"gone behind a lost one", "text", list(lost(), gone()), none, 2},
		{"gone behind two", "text", list(busy(), late(6), gone()), none, 3},
		{"gone behind three", "text", list(lost(), busy(), late(6), gone()), net1, 3},
		{"gone ahead of a lost one", "text", list(gone(), lost()), none, 1},
		{"too long behind a lost one", more, list(lost()), budget, 2},
		{"too long behind two", more, list(busy(), late(6)), budget, 3},
		{"too long behind three", more, list(busy(), late(6), lost()), net1, 3},
		{"too long and late", more, list(late(6)), budget, 2},
		{"too long once", just, list(forged(more)), budget, 1},
		{"too long behind three good ones", just, list(late(5), lost(), lost(), forged(more)), answer{just, api.OK}, 1},
		{"forged", "text", list(forged("other")), answer{"other", api.OK}, 1},
		{"forged where no page is", "", list(forged("other")), answer{"other", api.OK}, 1},
		{"forged behind a lost one", "text", list(lost(), forged("")), answer{"", api.OK}, 2},
		{"cut", more, list(net.Fault{Kind: net.FCut, N: 10}), answer{just, api.OK}, 1},
		{"cut to nothing", more, list(net.Fault{Kind: net.FCut}), answer{"", api.OK}, 1},
		{"turned", "text", list(net.Fault{Kind: net.FFlip, N: 8}), answer{"tdxt", api.OK}, 1},
	}
}

func TestP11_2_Fates(t *testing.T) {
	for _, f := range fates() {
		clients(t, proxy.Opts{Tries: 3, Patience: 5, Budget: 10}, func(t *testing.T, n *net.Net, c *proxy.Client) {
			if f.page != "" {
				lay(t, n, "/p", f.page)
			}
			befall(t, n, "/p", f.faults...)
			answers(t, f.what, c, call{name: "Fetch", path: "/p"}, f.want)
			asked(t, f.what, n, "/p", f.asked)
			is(t, "Total, "+f.what, n.Total(), f.asked)
		})
	}
}

// An empty page is a page.
func TestP11_2_EmptyPage(t *testing.T) {
	clients(t, proxy.Opts{Tries: 1, Patience: 1, Budget: 1}, func(t *testing.T, n *net.Net, c *proxy.Client) {
		lay(t, n, "/p", "")
		fetches(t, "an empty page", c, "/p", "")
		fetches(t, "an empty page again", c, "/p", "")
	})
}

func TestP11_2_Tries(t *testing.T) {
	for tries := 1; tries <= api.MaxTries; tries++ {
		for _, bad := range []net.Fault{lost(), busy(), late(2)} {
			for count := range api.MaxTries + 2 {
				clients(t, proxy.Opts{Tries: tries, Patience: 1, Budget: 4}, func(t *testing.T, n *net.Net, c *proxy.Client) {
					lay(t, n, "/p", "text")
					befall(t, n, "/p", repeat(bad, count)...)
					what := fmt.Sprintf("%d tries, %d of kind %d", tries, count, bad.Kind)
					if count < tries {
						fetches(t, what, c, "/p", "text")
					} else {
						fetchesNot(t, what, c, "/p", api.ErrNet)
					}
					asked(t, what, n, "/p", min(count+1, tries))
				})
			}
		}
	}
}

func TestP11_2_Patience(t *testing.T) {
	for _, patience := range []int{1, 2, 100, math.MaxInt - 1, math.MaxInt} {
		clients(t, proxy.Opts{Tries: 1, Patience: patience, Budget: 4}, func(t *testing.T, n *net.Net, c *proxy.Client) {
			lay(t, n, "/just", "text", "/more", "text", "/honest", "text")
			befall(t, n, "/just", late(patience))
			fetches(t, "just Patience", c, "/just", "text")
			fetches(t, "honest", c, "/honest", "text")
			if patience < math.MaxInt {
				befall(t, n, "/more", late(patience+1))
				fetchesNot(t, "one more", c, "/more", api.ErrNet)
			}
		})
	}
}

func TestP11_2_Budget(t *testing.T) {
	for _, budget := range []int{1, 2, 1000, api.MaxBudget} {
		clients(t, proxy.Opts{Tries: 2, Patience: 1, Budget: budget}, func(t *testing.T, n *net.Net, c *proxy.Client) {
			just := strings.Repeat("x", budget)
			lay(t, n, "/just", just, "/more", just+"x")
			b, e := c.Fetch("/just")
			isError(t, "just Budget", e, api.OK)
			is(t, "just Budget", string(b) == just, true)
			fetchesNot(t, "one more", c, "/more", api.ErrBudget)
			asked(t, "just Budget", n, "/just", 1)
			asked(t, "one more", n, "/more", 1)
		})
	}
}

// A client that doesn't remember asks anew each time, as the network is then.
func TestP11_2_AsksAgain(t *testing.T) {
	n := web(t, "/p", "text")
	c := client(t, n, "", proxy.Opts{Tries: 2, Patience: 1, Budget: 5})
	fetches(t, "first", c, "/p", "text")
	lay(t, n, "/p", "other")
	fetches(t, "second", c, "/p", "other")
	befall(t, n, "/p", lost(), lost(), lost())
	fetchesNot(t, "lost", c, "/p", api.ErrNet)
	fetches(t, "lost and found", c, "/p", "other")
	lay(t, n, "/p", "longer")
	fetchesNot(t, "too long", c, "/p", api.ErrBudget)
	lay(t, n, "/p", "")
	fetches(t, "empty", c, "/p", "")
	asked(t, "all", n, "/p", 8)
}
