package proxy_test

import (
	"strings"
	"testing"

	"mews/api"
	"mews/net"
	"mews/proxy"
)

func TestExamples(t *testing.T) {
	const list, info = "/a.b/c/@v/list", "/a.b/c/@v/v1.0.0.info"
	n, e := net.New(
		[]net.Page{{URL: list, Data: []byte("v1.0.0\nx\nv0.1.0\nv2.0.0\n")}, {URL: info, Data: []byte(goodInfo)}},
		[]net.Fault{{URL: list, Attempt: 1, Kind: net.FDrop}, {URL: info, Attempt: 1, Kind: net.FLate, N: 6}},
	)
	done(t, e)
	c := client(t, n, "", proxy.Opts{Tries: 2, Patience: 5, Budget: 1000})
	l, e := c.List("a.b/c")
	isError(t, "List", e, api.OK)
	is(t, "List", strings.Join(l, " "), "v0.1.0 v1.0.0")
	asked(t, "List", n, list, 2)
	i, e := c.Info(one())
	isError(t, "Info", e, api.OK)
	is(t, "Info", i, proxy.Info{Version: "v1.0.0", Time: "2020-01-02T03:04:05Z"})
	asked(t, "Info", n, info, 2)
	_, e = c.Info(at("a.b/c", "v1.0.1"))
	isError(t, "Info of another", e, api.ErrNone)
	_, e = c.Manifest(one())
	isError(t, "Manifest", e, api.ErrNone)
	url, e := c.URL(at("a.b/C", "v1.0.0"), "zip")
	isError(t, "URL", e, api.OK)
	is(t, "URL", url, "/a.b/!c/@v/v1.0.0.zip")
	_, e = c.List("ab")
	isError(t, "List of no path", e, api.ErrPath)
	_, e = proxy.ParseInfo([]byte("{}"))
	isError(t, "ParseInfo", e, api.ErrReply)
	_, e = proxy.New(n, "", proxy.Opts{Tries: 0, Patience: 1, Budget: 1})
	isError(t, "New", e, api.ErrRange)
}
