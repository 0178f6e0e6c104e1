package proxy_test

import (
	"fmt"
	"math/rand"
	"strings"
	"testing"

	"mews/api"
	"mews/net"
	"mews/proxy"
)

// pool is the modules of the walks, some of which may not be.
func pool() []api.Mod {
	return []api.Mod{
		one(), at("a.b/c", "v0.1.0"), at("a.b/C", "v1.0.0-Rc"), at("a.b/c/v2", "v2.0.0"), at("x.y", pseudoOne),
		at("ab", "v1.0.0"), at("a.b/c", "v2.0.0"), at("a.b/c", "v1"), at("a.b/v1", "v1.0.0"),
	}
}

// drawCall is a call by chance.
func drawCall(chance *rand.Rand) call {
	m := draw(chance, pool()...)
	x := draw(chance, each(m)...)
	if chance.Intn(8) == 0 {
		url := x.url()
		x = call{name: "Fetch", path: draw(chance, url, url, "", strings.Repeat("u", api.MaxURL+1))}
	}
	return x
}

// drawPage is what may stand at the URL of a call: mostly what an honest server has.
func drawPage(t *testing.T, chance *rand.Rand) string {
	m := draw(chance, pool()[:5]...)
	i := infoOf(m.Version, "2020-01-02T03:04:05Z")
	return draw(chance,
		"v1.0.0\nv0.1.0\nv2.0.0\nx\n\nv1.0.0-Rc\n"+pseudoOne+"\n", "v2.0.0\nv2.1.0-a\nv0.2.0", "", "\n", " ",
		i, i, i, i+"\n", infoOf("v1.0.0", "2020-01-32T00:00:00Z"),
		"module "+m.Path+"\n", "module "+m.Path+"\n", "module "+m.Path+"\nrequire\n",
		packed(t, m, file("x", "text"), file("y", "")), packed(t, m, file("x", "text")), packed(t, m), "PK\x03\x04",
	)
}

// drawFault is a fault of a URL's request.
func drawFault(t *testing.T, chance *rand.Rand, url string, attempt int) net.Fault {
	f := draw(chance, lost(), busy(), late(chance.Intn(9)), gone(), forged(drawPage(t, chance)))
	f.URL, f.Attempt = url, attempt
	return f
}

// walker is networks, and clients of them, of the program and of the model.
type walker struct {
	n     *net.Net
	model *modelNet
	ours  []*proxy.Client
	their []*modelClient
}

func newWalker(t *testing.T, chance *rand.Rand) *walker {
	w := &walker{n: web(t), model: newModelNet()}
	for range 2 {
		o := proxy.Opts{Tries: draw(chance, 1, 2, 3, api.MaxTries), Patience: 1 + chance.Intn(6), Budget: draw(chance, 40, 100, 1000)}
		base := draw(chance, "", "", "/base")
		c, m := client(t, w.n, base, o), &modelClient{w.model, base, o, nil}
		w.ours = append(w.ours, c, c.Remember())
		w.their = append(w.their, m, m.remember())
	}
	return w
}

// meddle is what others do to the network.
func (w *walker) meddle(t *testing.T, chance *rand.Rand) {
	url := draw(chance, "", "/base") + drawCall(chance).url()
	if chance.Intn(3) > 0 {
		page := drawPage(t, chance)
		if w.n.Set(url, []byte(page)) == api.OK {
			w.model.pages[url] = page
		}
		return
	}
	f := drawFault(t, chance, url, w.n.Asked(url)+1+chance.Intn(3))
	if w.n.Add(f) == api.OK {
		w.model.add(f)
	}
}

// Every call answers what the chapter says, and asks what it says.
func TestWalks(t *testing.T) {
	chance := rand.New(rand.NewSource(110))
	met := map[api.Errno]int{}
	for range 300 {
		w := newWalker(t, chance)
		for range 100 {
			if chance.Intn(2) == 0 {
				w.meddle(t, chance)
				continue
			}
			x, k := drawCall(chance), chance.Intn(len(w.ours))
			before := total(w.n)
			want := w.their[k].does(x)
			answers(t, brief(x), w.ours[k], x, want)
			met[want.e]++
			bounded(t, w.n, before, w.their[k].o.Tries)
		}
		for url, count := range w.model.asked {
			asked(t, url, w.n, url, count)
		}
		is(t, "URLs", len(w.n.URLs()), len(w.model.asked))
	}
	for _, e := range []api.Errno{api.OK, api.ErrLong, api.ErrNone, api.ErrNet, api.ErrBudget, api.ErrReply, api.ErrPath, api.ErrMajor, api.ErrVersion} {
		is(t, fmt.Sprint("whether error ", e, " was met often"), met[e] > 20, true)
	}
}

// total is how often each URL was requested.
func total(n *net.Net) map[string]int {
	counts := map[string]int{}
	for _, url := range n.URLs() {
		counts[url] = n.Asked(url)
	}
	return counts
}

// bounded fails the test unless one URL at most was requested since, and that
// not more often than the tries.
func bounded(t *testing.T, n *net.Net, before map[string]int, tries int) {
	t.Helper()
	urls := 0
	for url, count := range total(n) {
		if more := count - before[url]; more > 0 {
			urls++
			is(t, fmt.Sprint("whether ", more, " requests are within ", tries, " tries"), more <= tries, true)
		}
	}
	is(t, "whether one URL at most was requested", urls <= 1, true)
}

func TestP11_8_InBounds(t *testing.T) {
	m := one()
	calls := append(each(m), call{name: "Fetch", path: "/p"})
	for _, tries := range []int{1, 2, 3, api.MaxTries} {
		for _, bad := range []net.Fault{lost(), busy(), late(6)} {
			for _, x := range calls {
				clients(t, proxy.Opts{Tries: tries, Patience: 5, Budget: 1 << 20}, func(t *testing.T, n *net.Net, c *proxy.Client) {
					honest(t, n, m)
					lay(t, n, "/p", "text")
					befall(t, n, x.url(), repeat(bad, 3*api.MaxTries)...)
					refuses(t, "all lost", c, x, api.ErrNet)
					is(t, "URLs, "+x.name, strings.Join(n.URLs(), " "), x.url())
					asked(t, x.name, n, x.url(), tries)
				})
			}
		}
	}
}

// Honest answers in time, in just Patience too: one request is enough, also
// where there is no page, and where what is there is refused.
func TestP11_8_OneIsEnough(t *testing.T) {
	m := one()
	calls := append(each(m), call{name: "Fetch", path: "/p"})
	for _, x := range calls {
		for page, want := range map[string]api.Errno{"honest": api.OK, "none": api.ErrNone, "\x00": api.ErrReply} {
			clients(t, proxy.Opts{Tries: api.MaxTries, Patience: 5, Budget: 1 << 20}, func(t *testing.T, n *net.Net, c *proxy.Client) {
				switch page {
				case "honest":
					honest(t, n, m)
					lay(t, n, "/p", "text")
				case "\x00":
					lay(t, n, x.url(), page)
				}
				befall(t, n, x.url(), late(5))
				if x.name == "Fetch" && page == "\x00" {
					want = api.OK
				}
				isError(t, x.name+", "+brief(page), x.does(c).e, want)
				is(t, "Total, "+x.name, n.Total(), 1)
			})
		}
	}
}

// URL, ParseInfo, FormatInfo, New and Remember request nothing.
func TestP11_8_NothingAsked(t *testing.T) {
	n := web(t)
	c := client(t, n, "", usual).Remember()
	c.URL(one(), "zip")
	c.URL(one(), "x")
	proxy.ParseInfo([]byte(goodInfo))
	proxy.FormatInfo(proxy.Info{})
	is(t, "Total", n.Total(), 0)
}

// Fewer answers than Tries that are lost, late, or of a busy server, change
// nothing, whatever comes behind them.
func TestP11_9_Refused(t *testing.T) {
	chance := rand.New(rand.NewSource(119))
	met := map[api.Errno]int{}
	for range 3000 {
		x := drawCall(chance)
		pages := []string{}
		if x.url() != "" && len(x.url()) <= api.MaxURL && chance.Intn(8) > 0 {
			pages = append(pages, x.url(), drawPage(t, chance))
		}
		o := proxy.Opts{Tries: 1 + chance.Intn(api.MaxTries), Patience: 1 + chance.Intn(5), Budget: draw(chance, 20, 100, 1000)}
		want := x.does(client(t, web(t, pages...), "", o))
		met[want.e]++
		n := web(t, pages...)
		c := client(t, n, "", o)
		if len(pages) > 0 {
			var faults []net.Fault
			for range chance.Intn(o.Tries) {
				faults = append(faults, draw(chance, lost(), busy(), late(o.Patience+1+chance.Intn(3))))
			}
			befall(t, n, x.url(), faults...)
		}
		if chance.Intn(2) == 0 {
			c = c.Remember()
		}
		answers(t, brief(x), c, x, want)
	}
	for _, e := range []api.Errno{api.OK, api.ErrNone, api.ErrBudget, api.ErrReply} {
		is(t, fmt.Sprint("whether error ", e, " was met often"), met[e] > 20, true)
	}
}
