package sumdb_test

import (
	"strings"
	"testing"

	"mews/api"
	"mews/ark"
	"mews/net"
	"mews/note"
	"mews/proxy"
	"mews/sumdb"
)

func TestExamples(t *testing.T) {
	b := plain(t, 5)
	pages, e := sumdb.Pages("", b.lines, []int{3, 5}, key(t))
	isError(t, "Pages", e, api.OK)
	var urls []string
	for _, p := range pages {
		urls = append(urls, p.URL)
	}
	is(t, "Pages", strings.Join(urls, " "), "/lookup/a.b/m0@v1.0.0 /lookup/a.b/m1@v1.0.0 /lookup/a.b/m2@v1.0.0 /lookup/a.b/m3@v1.0.0 /lookup/a.b/m4@v1.0.0"+
		" /latest /tile/2/0/000.p/3 /tile/2/0/000 /tile/2/0/001.p/1 /tile/2/1/000.p/1")
	n, e := net.New(pages, nil)
	done(t, e)
	p, e := proxy.New(n, "", usual)
	done(t, e)
	none, e := sumdb.New(p, key(t), note.Head{Size: 1})
	isError(t, "New with no root", e, api.ErrForm)
	is(t, "New with no root", none == nil, true)
	c, e := sumdb.New(p, key(t), note.Head{Size: 0, Root: ark.SHA256(nil)})
	isError(t, "New", e, api.OK)
	url, e := sumdb.URL(at("a.b/C", "v1.0.0"))
	isError(t, "URL", e, api.OK)
	is(t, "URL", url, "/lookup/a.b/!c@v1.0.0")
	looksUp(t, "the third", c, b.lines[2], b.head(3))
	looksUp(t, "the fifth", c, b.lines[4], b.head(5))
	looksUp(t, "the first", c, b.lines[0], b.head(5))
	looksUpNot(t, "a module without a page", c, at("a.b/none", "v1.0.0"), api.ErrNone, b.head(5))
}

func TestHeight(t *testing.T) { is(t, "Height", sumdb.Height, 2) }
