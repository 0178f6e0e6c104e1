package proxy_test

import (
	"fmt"
	"strings"
	"sync"
	"testing"

	"mews/api"
	"mews/net"
	"mews/proxy"
)

// together runs so many goroutines that begin at once, and waits for them.
func together(count int, do func(i int)) {
	var group sync.WaitGroup
	begin := make(chan struct{})
	for i := range count {
		group.Add(1)
		go func() {
			defer group.Done()
			<-begin
			do(i)
		}()
	}
	close(begin)
	group.Wait()
}

// Only the first request of the URL gets what it gets; a second one would get
// another thing. The page is long, so that others come while it is asked for.
func TestP11_2_OthersWait(t *testing.T) {
	page := strings.Repeat("x", 1<<20)
	for round := range 20 {
		n := web(t, "/p", page, "/q", page)
		befall(t, n, "/p", lost(), late(6), late(5), forged("wrong"), gone(), lost())
		befall(t, n, "/q", lost(), busy(), lost(), forged("wrong"))
		r := client(t, n, "", usual).Remember()
		got := make([]answer, 32)
		together(len(got), func(i int) {
			url := []string{"/p", "/q", "/none"}[(i+round)%3]
			got[i] = call{name: "Fetch", path: url}.does(r)
		})
		for i, a := range got {
			want := []answer{{page, api.OK}, {"", api.ErrNet}, {"", api.ErrNone}}[(i+round)%3]
			is(t, "whether Fetch tells what came first", a == want, true)
		}
		asked(t, "of several", n, "/p", 3)
		asked(t, "of several", n, "/q", 3)
		asked(t, "of several", n, "/none", 1)
	}
}

// All calls, of both kinds of clients, by several goroutines at once.
func TestP11_7_SeveralGoroutines(t *testing.T) {
	mods := []api.Mod{one(), at("a.b/C/v2", "v2.0.0-Rc"), at("x.y", "v0.1.0")}
	n := web(t)
	for _, m := range mods {
		honest(t, n, m)
	}
	c := client(t, n, "", usual)
	want := map[call]answer{}
	for _, m := range mods {
		for _, x := range each(m) {
			want[x] = x.does(c)
			isError(t, brief(x), want[x].e, api.OK)
			// Each URL is asked for so often that these befall requests of several;
			// they are fewer than MaxTries, so that none can meet too many.
			for attempt := 3; attempt < 3*api.MaxTries; attempt += 3 {
				f := []net.Fault{lost(), busy(), late(6)}[attempt%9/3]
				f.URL, f.Attempt = x.url(), attempt
				done(t, n.Add(f))
			}
		}
	}
	patient := client(t, n, "", proxy.Opts{Tries: api.MaxTries, Patience: 5, Budget: 1 << 20})
	r := patient.Remember()
	together(16, func(i int) {
		own := patient.Remember()
		for k := range 15 {
			m := mods[(i+k)%3]
			x := each(m)[k%5]
			for _, c := range []*proxy.Client{patient, r, own} {
				answers(t, "by several", c, x, want[x])
			}
			url, e := r.URL(m, "zip")
			is(t, "URL by several", fmt.Sprint(url, e), fmt.Sprint(call{"Zip", m.Path, m.Version}.url(), api.OK))
			info, e := proxy.ParseInfo(proxy.FormatInfo(proxy.Info{Version: m.Version, Time: "2020-01-02T03:04:05Z"}))
			is(t, "ParseInfo by several", fmt.Sprint(info.Version, e), fmt.Sprint(m.Version, api.OK))
		}
	})
}

// What several goroutines write into their answers none of the others sees.
func TestP11_7_SeveralSpoil(t *testing.T) {
	m := one()
	n := web(t)
	honest(t, n, m)
	c := client(t, n, "", usual)
	zip, manifest := call{"Zip", m.Path, m.Version}.does(c), call{"Manifest", m.Path, m.Version}.does(c)
	r := c.Remember()
	together(16, func(int) {
		for range 20 {
			b, files, e := r.Zip(m)
			is(t, "Zip", answer{string(b) + told(files), e}, zip)
			spoilBytes(b)
			spoilFiles(files)
			b, e = r.Manifest(m)
			is(t, "Manifest", answer{string(b), e}, manifest)
			spoilBytes(b)
			l, e := r.List(m.Path)
			is(t, "List", answer{strings.Join(l, " "), e}, answer{m.Version, api.OK})
			spoil(l, "spoilt")
		}
	})
	is(t, "Total", n.Total(), 5)
}
