package net_test

import (
	"fmt"
	"math/rand"
	"slices"
	"testing"

	"mews/api"
	"mews/net"
)

// model is a network as lists that are searched from the front: all that was
// said, in its order, and all that was asked.
type model struct {
	pages  []net.Page
	faults []net.Fault
	asked  []string
}

func (m *model) set(url, text string) api.Errno {
	if len(url) < 1 || len(url) > 400 {
		return api.ErrLong
	}
	m.pages = append(m.pages, net.Page{URL: url, Data: []byte(text)})
	return api.OK
}

func (m *model) add(f net.Fault) api.Errno {
	switch {
	case len(f.URL) < 1 || len(f.URL) > 400:
		return api.ErrLong
	case f.Kind < 1 || f.Kind > 7:
		return api.ErrKind
	case f.Attempt < 1 || f.N < 0:
		return api.ErrRange
	case m.fault(f.URL, f.Attempt).Kind != 0:
		return api.ErrThere
	}
	m.faults = append(m.faults, f)
	return api.OK
}

func (m *model) fault(url string, attempt int) net.Fault {
	for _, f := range m.faults {
		if f.URL == url && f.Attempt == attempt {
			return f
		}
	}
	return net.Fault{}
}

func (m *model) count(url string) int {
	count := 0
	for _, u := range m.asked {
		if u == url {
			count++
		}
	}
	return count
}

func (m *model) get(url string) answer {
	m.asked = append(m.asked, url)
	f := m.fault(url, m.count(url))
	switch f.Kind {
	case net.FDrop:
		return answer{0, "", 1}
	case net.FForge:
		return answer{200, string(f.Data), 1}
	case net.FGone:
		return answer{404, "", 1}
	case net.FBusy:
		return answer{503, "", 1}
	}
	for i := len(m.pages) - 1; i >= 0; i-- {
		if m.pages[i].URL == url {
			return befallen(string(m.pages[i].Data), f)
		}
	}
	return answer{404, "", 1}
}

// befallen is the answer of a page that there is.
func befallen(text string, f net.Fault) answer {
	switch f.Kind {
	case net.FCut:
		if f.N < len(text) {
			text = text[:f.N]
		}
	case net.FFlip:
		data := []byte(text)
		for j := range data {
			for k := range 8 {
				if 8*j+k == f.N {
					data[j] ^= []byte{1, 2, 4, 8, 16, 32, 64, 128}[k]
				}
			}
		}
		text = string(data)
	case net.FLate:
		return answer{200, text, f.N}
	}
	return answer{200, text, 1}
}

func (m *model) counts() string {
	urls := slices.Clone(m.asked)
	slices.Sort(urls)
	text := ""
	for _, url := range slices.Compact(urls) {
		text += fmt.Sprintf("%.20q %d, ", url, m.count(url))
	}
	return text + fmt.Sprint(len(m.asked))
}

// someURL is mostly one of few; now and then a wrong one.
func someURL(r *rand.Rand) string {
	switch r.Intn(20) {
	case 0:
		return ""
	case 1:
		return long(api.MaxURL + r.Intn(2))
	}
	return []string{"/a", "/b", "/c"}[r.Intn(3)]
}

func someText(r *rand.Rand) string {
	data := make([]byte, r.Intn(4))
	r.Read(data)
	return string(data)
}

func someFault(r *rand.Rand) net.Fault {
	f := net.Fault{URL: someURL(r), Attempt: 1 + r.Intn(15), Kind: 1 + r.Intn(7), N: r.Intn(30), Data: []byte(someText(r))}
	switch r.Intn(12) {
	case 0:
		f.Attempt = -r.Intn(2)
	case 1:
		f.N = -1 - r.Intn(2)
	case 2:
		f.Kind = []int{-1, 0, 8, 9}[r.Intn(4)]
	}
	return f
}

func TestChainsAgreeWithTheModel(t *testing.T) {
	for seed := range 300 {
		r := rand.New(rand.NewSource(int64(seed)))
		n, m := made(t, nil), &model{}
		for step := range 80 {
			what := fmt.Sprintf("chain %d, step %d", seed, step)
			switch r.Intn(5) {
			case 0:
				url, text := someURL(r), someText(r)
				is(t, what+": Set", n.Set(url, []byte(text)), m.set(url, text))
			case 1:
				f := someFault(r)
				is(t, what+": Add", n.Add(f), m.add(f))
			default:
				url := someURL(r)
				is(t, what+": Get", seen(n.Get(url)), m.get(url))
			}
			is(t, what+": counts", counts(n), m.counts())
		}
		if t.Failed() {
			return
		}
	}
}

func TestNewAgreesWithTheModel(t *testing.T) {
	for seed := range 2000 {
		r := rand.New(rand.NewSource(int64(seed)))
		var pages []net.Page
		var faults []net.Fault
		for range r.Intn(3) {
			pages = append(pages, net.Page{URL: someURL(r), Data: []byte(someText(r))})
		}
		for range r.Intn(4) {
			faults = append(faults, someFault(r))
		}
		m, want := modelOf(pages, faults)
		n, e := net.New(pages, faults)
		is(t, fmt.Sprintf("%q %v", pages, faults), e, want)
		is(t, "a network", n != nil, want == api.OK)
		if n == nil {
			continue
		}
		for range 20 {
			url := someURL(r)
			is(t, "Get", seen(n.Get(url)), m.get(url))
		}
	}
}

func modelOf(pages []net.Page, faults []net.Fault) (*model, api.Errno) {
	m := &model{}
	for i, p := range pages {
		if e := m.set(p.URL, string(p.Data)); e != api.OK {
			return nil, e
		}
		for _, ahead := range pages[:i] {
			if ahead.URL == p.URL {
				return nil, api.ErrThere
			}
		}
	}
	for _, f := range faults {
		if e := m.add(f); e != api.OK {
			return nil, e
		}
	}
	return m, api.OK
}

// A URL among others gets what it would get in a network of its own.
func TestP2_5_ByItself(t *testing.T) {
	urls := []string{"/a", "/b", "/c"}
	for seed := range 200 {
		r := rand.New(rand.NewSource(int64(seed)))
		all, own := made(t, nil), map[string]*net.Net{}
		for _, url := range urls {
			own[url] = made(t, nil)
		}
		for range 60 {
			url := urls[r.Intn(len(urls))]
			switch r.Intn(4) {
			case 0:
				text := []byte(someText(r))
				is(t, "Set", all.Set(url, text), own[url].Set(url, text))
			case 1:
				f := someFault(r)
				f.URL = url
				is(t, "Add", all.Add(f), own[url].Add(f))
			default:
				is(t, fmt.Sprintf("run %d, Get(%s)", seed, url), seen(all.Get(url)), seen(own[url].Get(url)))
			}
			is(t, "Asked", all.Asked(url), own[url].Asked(url))
		}
	}
}

// The same requests in another order get, URL by URL, the same.
func TestP2_5_InWhateverOrder(t *testing.T) {
	r := rand.New(rand.NewSource(1))
	urls := []string{"/a", "/b", "/c", "/d"}
	var pages []net.Page
	var faults []net.Fault
	var order []string
	for i, url := range urls {
		if i > 0 {
			pages = append(pages, net.Page{URL: url, Data: []byte("text of " + url)})
		}
		for attempt := 1; attempt <= 9; attempt++ {
			faults = append(faults, net.Fault{URL: url, Attempt: attempt, Kind: 1 + (attempt+i)%7, N: attempt, Data: []byte(url)})
			order = append(order, url, url)
		}
	}
	want := ""
	for range 50 {
		r.Shuffle(len(order), func(i, j int) { order[i], order[j] = order[j], order[i] })
		n, got := made(t, pages, faults...), map[string][]answer{}
		for _, url := range order {
			got[url] = append(got[url], seen(n.Get(url)))
		}
		if want == "" {
			want = fmt.Sprint(got)
		}
		is(t, "answers by URL", fmt.Sprint(got), want)
	}
}

func TestP2_6_Honest(t *testing.T) {
	for seed := range 200 {
		r := rand.New(rand.NewSource(int64(seed)))
		n, text, faulty := made(t, one("/a", "first")), "first", map[int]int{}
		for range 60 {
			switch r.Intn(6) {
			case 0:
				text = someText(r)
				n.Set("/a", []byte(text))
			case 1:
				f := someFault(r)
				if n.Add(f) == api.OK && f.URL == "/a" {
					faulty[f.Attempt]++
				}
			case 2:
				n.Get(someURL(r))
			default:
				got := seen(n.Get("/a"))
				if faulty[n.Asked("/a")] == 0 {
					is(t, fmt.Sprintf("run %d, request %d", seed, n.Asked("/a")), got, page(text))
				}
			}
			sum := 0
			for _, url := range n.URLs() {
				sum += n.Asked(url)
			}
			is(t, "Total", n.Total(), sum)
		}
	}
}
