package sumdb_test

import (
	"bytes"
	"fmt"
	"math"
	"strings"
	"testing"

	"mews/api"
	"mews/net"
	"mews/note"
	"mews/sumdb"
)

// triedHead is a head, and whether it may be one.
type triedHead struct {
	h    note.Head
	good bool
}

// triedHeads is heads at the edges.
func triedHeads() []triedHead {
	nothing := []byte(modelRoot(nil))
	root := bytes.Repeat([]byte{7}, 32)
	l := []triedHead{
		{note.Head{Size: 0, Root: nothing}, true},
		{note.Head{Size: 0, Root: root}, false},
		{note.Head{Size: 0, Root: make([]byte, 32)}, false},
		{note.Head{Size: 0, Root: append(nothing[:31:31], nothing[31]^1)}, false},
		{note.Head{Size: 0, Root: nothing[:31]}, false},
		{note.Head{Size: 0, Root: append(nothing[:32:32], 0)}, false},
		{note.Head{}, false},
		{note.Head{Size: 1, Root: nothing}, true},
	}
	for _, size := range []int{1, 2, 3, api.MaxRecords - 1, api.MaxRecords} {
		l = append(l, triedHead{note.Head{Size: size, Root: root}, true})
		for _, length := range []int{0, 1, 31, 33, 64} {
			l = append(l, triedHead{note.Head{Size: size, Root: bytes.Repeat([]byte{7}, length)}, false})
		}
	}
	for _, size := range []int{math.MinInt, -32, -1, api.MaxRecords + 1, math.MaxInt} {
		l = append(l, triedHead{note.Head{Size: size, Root: root}, false}, triedHead{note.Head{Size: size, Root: nothing}, false})
	}
	return l
}

func TestP12_1_New(t *testing.T) {
	n := web(t, plain(t, 1), 1)
	for _, x := range triedHeads() {
		c, e := sumdb.New(through(t, n), key(t), x.h)
		what := tellHead(x.h)
		if x.good {
			isError(t, what, e, api.OK)
			hasHead(t, what, c, x.h)
			hasHead(t, what+" again", c, x.h)
		} else {
			isError(t, what, e, api.ErrForm)
			is(t, what, c == nil, true)
		}
	}
	is(t, "whether New asks nothing", n.Total(), 0)
}

// A client asks by the proxy's client that it was given, behind its base.
func TestP12_1_KeepsProxy(t *testing.T) {
	b := plain(t, 3)
	n, e := net.New(modelPages(t, base, b, []int{3}), nil)
	done(t, e)
	p := through(t, n)
	c := clientOf(t, p, noHead())
	for range 2 {
		watch := since(n)
		looksUp(t, "plain", c, b.lines[0], b.head(3))
		requested(t, "a plain client", watch(), lookupURL(0), tileURL("0/000.p/3"))
	}
	c = clientOf(t, p.Remember(), noHead())
	watch := since(n)
	for range 2 {
		looksUp(t, "one that remembers", c, b.lines[0], b.head(3))
	}
	requested(t, "one that remembers", watch(), lookupURL(0), tileURL("0/000.p/3"))
}

// Two clients of one proxy's client have heads of their own.
func TestP12_1_HeadsOfTheirOwn(t *testing.T) {
	b := plain(t, 9)
	p := through(t, web(t, b, 4, 9))
	c, d := clientOf(t, p, noHead()), clientOf(t, p, b.head(4))
	looksUp(t, "the one", c, b.lines[8], b.head(9))
	hasHead(t, "the other one", d, b.head(4))
}

func TestP12_1_URL(t *testing.T) {
	for _, x := range []struct {
		m    api.Mod
		want string
	}{
		{at("a.b/C", "v1.0.0"), "/lookup/a.b/!c@v1.0.0"},
		{at("a.b", "v0.0.0"), "/lookup/a.b@v0.0.0"},
		{at("a.b/c/v2", "v2.1.0-Rc.1"), "/lookup/a.b/c/v2@v2.1.0-!rc.1"},
		{at("a.b/ABC~_-", "v1.0.0-AB"), "/lookup/a.b/!a!b!c~_-@v1.0.0-!a!b"},
		{at("a.b/"+strings.Repeat("X", 96), "v1.0.0-"+strings.Repeat("Y", 53)), "/lookup/a.b/" + strings.Repeat("!x", 96) + "@v1.0.0-" + strings.Repeat("!y", 53)},
	} {
		url, e := sumdb.URL(x.m)
		isError(t, brief(x.m), e, api.OK)
		is(t, brief(x.m), url, x.want)
	}
}

// wrongMods is modules that mod.Check refuses.
func wrongMods() map[api.Mod]api.Errno {
	return map[api.Mod]api.Errno{
		{}:                       api.ErrPath,
		at("", "v1.0.0"):         api.ErrPath,
		at("ab", "v1.0.0"):       api.ErrPath,
		at("a.b//c", "v1.0.0"):   api.ErrPath,
		at("a.b/!c", "v1.0.0"):   api.ErrPath,
		at("a.b/\xff", "v1.0.0"): api.ErrPath,
		at("ab", ""):             api.ErrPath,
		at("A.b", "v2.0.0"):      api.ErrPath,
		at("a.b/"+strings.Repeat("x", 97), "v1.0.0"): api.ErrLong,
		at(strings.Repeat("/", 101), "v1"):           api.ErrLong,
		at("a.b/v1", "v1.0.0"):                       api.ErrMajor,
		at("a.b/v1", ""):                             api.ErrMajor,
		at("a.b", "v2.0.0"):                          api.ErrMajor,
		at("a.b/v2", "v1.0.0"):                       api.ErrMajor,
		at("a.b", ""):                                api.ErrVersion,
		at("a.b", "v1.0"):                            api.ErrVersion,
		at("a.b", "v1.0.0-!a"):                       api.ErrVersion,
		at("a.b/v2", "1.0.0"):                        api.ErrVersion,
		at("a.b", "v1.0.0-"+strings.Repeat("x", 54)): api.ErrVersion,
	}
}

func TestP12_1_WrongModules(t *testing.T) {
	n := web(t, plain(t, 1), 1)
	c := client(t, n, noHead())
	for m, want := range wrongMods() {
		url, e := sumdb.URL(m)
		isError(t, "URL, "+brief(m), e, want)
		is(t, "URL, "+brief(m), url, "")
		looksUpNot(t, brief(m), c, m, want, noHead())
	}
	is(t, "what is asked of modules that are none", fmt.Sprint(n.URLs()), "[]")
}
