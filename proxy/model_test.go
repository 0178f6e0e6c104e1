package proxy_test

import (
	"math/rand"
	"regexp"
	"slices"
	"strings"

	"mews/api"
	"mews/ark"
	"mews/mod"
	"mews/modfile"
	"mews/net"
	"mews/proxy"
)

// The chapter, written a second time: over a network that is told here, too.

var infoForm = regexp.MustCompile(`\A\{"Version":"([^"]*)","Time":"([0-9]{4}-(?:0[1-9]|1[0-2])-(?:0[1-9]|[12][0-9]|3[01])T(?:[01][0-9]|2[0-3]):[0-5][0-9]:[0-5][0-9]Z)"\}\z`)

var listForm = regexp.MustCompile(`\A[\n\x21-\x7e]*\z`)

// modelInfo is the info of a text.
func modelInfo(text string) (proxy.Info, bool) {
	parts := infoForm.FindStringSubmatch(text)
	if parts == nil || !mod.ValidVersion(parts[1]) {
		return proxy.Info{}, false
	}
	return proxy.Info{Version: parts[1], Time: parts[2]}, true
}

// modelNet is a network's pages, faults and counts.
type modelNet struct {
	pages  map[string]string
	faults map[string]map[int]net.Fault
	asked  map[string]int
}

func newModelNet() *modelNet {
	return &modelNet{map[string]string{}, map[string]map[int]net.Fault{}, map[string]int{}}
}

// add adds a fault.
func (n *modelNet) add(f net.Fault) {
	if n.faults[f.URL] == nil {
		n.faults[f.URL] = map[int]net.Fault{}
	}
	n.faults[f.URL][f.Attempt] = f
}

// get is a request: its status, its text, its ticks.
func (n *modelNet) get(url string) (int, string, int) {
	n.asked[url]++
	page, there := n.pages[url]
	f := n.faults[url][n.asked[url]]
	switch f.Kind {
	case net.FDrop:
		return 0, "", 1
	case net.FBusy:
		return 503, "", 1
	case net.FForge:
		return 200, string(f.Data), 1
	case net.FGone:
		return 404, "", 1
	}
	if !there {
		return 404, "", 1
	}
	if f.Kind == net.FLate {
		return 200, page, f.N
	}
	return 200, page, 1
}

// modelClient is a client; one that remembers has a map.
type modelClient struct {
	n      *modelNet
	base   string
	o      proxy.Opts
	memory map[string]answer
}

func (c *modelClient) remember() *modelClient {
	return &modelClient{c.n, c.base, c.o, map[string]answer{}}
}

// fetch is what Fetch answers.
func (c *modelClient) fetch(url string) answer {
	url = c.base + url
	if len(url) == 0 || len(url) > api.MaxURL {
		return answer{"", api.ErrLong}
	}
	if known, there := c.memory[url]; there {
		return known
	}
	came := c.request(url)
	if c.memory != nil {
		c.memory[url] = came
	}
	return came
}

func (c *modelClient) request(url string) answer {
	for try := 1; try <= c.o.Tries; try++ {
		status, text, ticks := c.n.get(url)
		if status == 404 {
			return answer{"", api.ErrNone}
		}
		if status == 200 && ticks <= c.o.Patience {
			if len(text) > c.o.Budget {
				return answer{"", api.ErrBudget}
			}
			return answer{text, api.OK}
		}
	}
	return answer{"", api.ErrNet}
}

// does is what a call answers.
func (c *modelClient) does(x call) answer {
	m := at(x.path, x.version)
	check := mod.Check(m)
	if x.name == "List" || x.name == "Latest" {
		check = mod.CheckPath(x.path)
	}
	if x.name == "Fetch" {
		return c.fetch(x.path)
	}
	if check != api.OK {
		return answer{"", check}
	}
	came := c.fetch(x.url())
	if came.e != api.OK {
		return came
	}
	text, ok := modelReply(x, came.text)
	if !ok {
		return answer{"", api.ErrReply}
	}
	return answer{text, api.OK}
}

// modelReply is what a call makes of a reply.
func modelReply(x call, text string) (string, bool) {
	m := at(x.path, x.version)
	switch x.name {
	case "List":
		return strings.Join(modelList(text, x.path), " "), len(text) <= api.MaxText && listForm.MatchString(text)
	case "Latest":
		i, ok := modelInfo(text)
		return i.Version + i.Time, ok && mod.Matches(i.Version, x.path)
	case "Info":
		i, ok := modelInfo(text)
		return i.Version + i.Time, ok && i.Version == x.version
	case "Manifest":
		f, _, e := modfile.Parse(text)
		return text, e == api.OK && f.Module == x.path
	default:
		files, e := ark.Unpack([]byte(text))
		if e != api.OK {
			return "", false
		}
		files, e = ark.Strip(files, m)
		return text + told(files), e == api.OK
	}
}

// modelList is a path's versions, among the lines of a text.
func modelList(text, path string) []string {
	var l []string
	for line := range strings.SplitSeq(text, "\n") {
		_, _, _, pseudo := mod.SplitPseudo(line)
		if mod.ValidVersion(line) && mod.Matches(line, path) && !pseudo && !slices.Contains(l, line) {
			l = append(l, line)
		}
	}
	slices.SortFunc(l, mod.Compare)
	return l
}

// draw is one of them by chance.
func draw[T any](chance *rand.Rand, all ...T) T { return all[chance.Intn(len(all))] }
