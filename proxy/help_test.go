package proxy_test

import (
	"fmt"
	"slices"
	"strings"
	"testing"

	"mews/api"
	"mews/ark"
	"mews/net"
	"mews/proxy"
)

// usual is the options of most tests.
var usual = proxy.Opts{Tries: 3, Patience: 5, Budget: api.MaxBudget}

// goodInfo is an info.
const goodInfo = `{"Version":"v1.0.0","Time":"2020-01-02T03:04:05Z"}`

// brief is how something is told where a test fails.
func brief(v any) string { return fmt.Sprintf("%.600s", fmt.Sprintf("%+q", v)) }

// is fails the test unless got is want.
func is[T comparable](t *testing.T, what string, got, want T) {
	t.Helper()
	if got != want {
		t.Errorf("%s: %s, not %s", what, brief(got), brief(want))
	}
}

// isError fails the test unless an error is the one that is asked.
func isError(t *testing.T, what string, got, want api.Errno) {
	t.Helper()
	if got != want {
		t.Errorf("%s: error %d, not %d", what, got, want)
	}
}

// done is a call that the test takes for granted.
func done(t *testing.T, e api.Errno) {
	t.Helper()
	if e != api.OK {
		t.Fatalf("error %d, not OK", e)
	}
}

// web is a network of pages: URL, text, URL, text ...
func web(t *testing.T, pairs ...string) *net.Net {
	t.Helper()
	n, e := net.New(nil, nil)
	done(t, e)
	lay(t, n, pairs...)
	return n
}

// lay gives a network more pages.
func lay(t *testing.T, n *net.Net, pairs ...string) {
	t.Helper()
	for i := 0; i < len(pairs); i += 2 {
		done(t, n.Set(pairs[i], []byte(pairs[i+1])))
	}
}

// Faults that are laid on a request by befall.
func lost() net.Fault              { return net.Fault{Kind: net.FDrop} }
func busy() net.Fault              { return net.Fault{Kind: net.FBusy} }
func gone() net.Fault              { return net.Fault{Kind: net.FGone} }
func late(ticks int) net.Fault     { return net.Fault{Kind: net.FLate, N: ticks} }
func forged(text string) net.Fault { return net.Fault{Kind: net.FForge, Data: []byte(text)} }

// befall lays faults on a URL's next requests, in this order.
func befall(t *testing.T, n *net.Net, url string, faults ...net.Fault) {
	t.Helper()
	for i, f := range faults {
		f.URL, f.Attempt = url, n.Asked(url)+i+1
		done(t, n.Add(f))
	}
}

// client is a client of a network.
func client(t *testing.T, n *net.Net, base string, o proxy.Opts) *proxy.Client {
	t.Helper()
	c, e := proxy.New(n, base, o)
	if c == nil || e != api.OK {
		t.Fatalf("New: error %d", e)
	}
	return c
}

// clients tries a client, and one that remembers, each with a network of its own.
func clients(t *testing.T, o proxy.Opts, try func(t *testing.T, n *net.Net, c *proxy.Client)) {
	t.Helper()
	t.Run("plain", func(t *testing.T) {
		n := web(t)
		try(t, n, client(t, n, "", o))
	})
	t.Run("remembers", func(t *testing.T) {
		n := web(t)
		try(t, n, client(t, n, "", o).Remember())
	})
}

// fetches fails the test unless Fetch tells a text.
func fetches(t *testing.T, what string, c *proxy.Client, url, want string) {
	t.Helper()
	b, e := c.Fetch(url)
	isError(t, "Fetch, "+what, e, api.OK)
	is(t, "Fetch, "+what, string(b), want)
}

// fetchesNot fails the test unless Fetch answers an error, with nothing beside it.
func fetchesNot(t *testing.T, what string, c *proxy.Client, url string, want api.Errno) {
	t.Helper()
	b, e := c.Fetch(url)
	isError(t, "Fetch, "+what, e, want)
	is(t, "Fetch, "+what, string(b), "")
}

// asked fails the test unless a URL was requested so often.
func asked(t *testing.T, what string, n *net.Net, url string, want int) {
	t.Helper()
	is(t, "Asked, "+what, n.Asked(url), want)
}

// at is a module.
func at(path, version string) api.Mod { return api.Mod{Path: path, Version: version} }

// one is the module of most tests.
func one() api.Mod { return at("a.b/c", "v1.0.0") }

// file is a file.
func file(name, text string) api.File { return api.File{Name: name, Data: []byte(text)} }

// packed is the archive of a module's files.
func packed(t *testing.T, m api.Mod, files ...api.File) string {
	t.Helper()
	b, e := ark.Pack(ark.Add(files, m))
	done(t, e)
	return string(b)
}

// told is files as one text.
func told(files []api.File) string {
	var parts []string
	for _, f := range files {
		parts = append(parts, f.Name+"="+string(f.Data))
	}
	return strings.Join(parts, " ")
}

// answer is what a call answers, as one text, and its error.
type answer struct {
	text string
	e    api.Errno
}

// call is a call of a client, by its name and its argument.
type call struct {
	name, path, version string
}

// kinds is the kinds of things of a module.
func kinds() []string { return []string{"info", "mod", "zip"} }

// does is what a client answers.
func (x call) does(c *proxy.Client) answer {
	m := at(x.path, x.version)
	switch x.name {
	case "Fetch":
		b, e := c.Fetch(x.path)
		return answer{string(b), e}
	case "List":
		l, e := c.List(x.path)
		return answer{strings.Join(l, " "), e}
	case "Latest":
		i, e := c.Latest(x.path)
		return answer{i.Version + i.Time, e}
	case "Info":
		i, e := c.Info(m)
		return answer{i.Version + i.Time, e}
	case "Manifest":
		b, e := c.Manifest(m)
		return answer{string(b), e}
	default:
		b, l, e := c.Zip(m)
		return answer{string(b) + told(l), e}
	}
}

// url is what a call requests, where its arguments may be.
func (x call) url() string {
	path, version := escaped(x.path), escaped(x.version)
	switch x.name {
	case "Fetch":
		return x.path
	case "List":
		return "/" + path + "/@v/list"
	case "Latest":
		return "/" + path + "/@latest"
	default:
		kind := map[string]string{"Info": "info", "Manifest": "mod", "Zip": "zip"}[x.name]
		return "/" + path + "/@v/" + version + "." + kind
	}
}

// escaped is a text as it stands in a URL.
func escaped(s string) string {
	var b strings.Builder
	for _, r := range s {
		if lower := strings.ToLower(string(r)); lower != string(r) {
			b.WriteString("!" + lower)
		} else {
			b.WriteRune(r)
		}
	}
	return b.String()
}

// answers fails the test unless a call answers this.
func answers(t *testing.T, what string, c *proxy.Client, x call, want answer) {
	t.Helper()
	got := x.does(c)
	isError(t, x.name+", "+what, got.e, want.e)
	is(t, x.name+", "+what, got.text, want.text)
}

// refuses fails the test unless a call answers an error, with nothing beside it.
func refuses(t *testing.T, what string, c *proxy.Client, x call, want api.Errno) {
	t.Helper()
	answers(t, what, c, x, answer{e: want})
}

// each is all calls that request something, for one module.
func each(m api.Mod) []call {
	return []call{
		{"List", m.Path, ""}, {"Latest", m.Path, ""},
		{"Info", m.Path, m.Version}, {"Manifest", m.Path, m.Version}, {"Zip", m.Path, m.Version},
	}
}

// honest gives a network what a server has of a module.
func honest(t *testing.T, n *net.Net, m api.Mod) {
	t.Helper()
	i := proxy.FormatInfo(proxy.Info{Version: m.Version, Time: "2020-01-02T03:04:05Z"})
	pages := []string{
		m.Version + "\n", string(i), string(i), "module " + m.Path + "\n",
		packed(t, m, file("x.go", "package x\n"), file("d/y.go", "package d\n"), file("empty", "")),
	}
	for k, x := range each(m) {
		lay(t, n, x.url(), pages[k])
	}
}

// repeat is a list of the same ones.
func repeat[T any](one T, count int) []T { return slices.Repeat([]T{one}, count) }
