package proxy_test

import (
	"fmt"
	"strings"
	"testing"

	"mews/api"
	"mews/mod"
	"mews/net"
	"mews/proxy"
)

// wrongPaths is paths that mod.CheckPath refuses, and its errors.
func wrongPaths() map[string]api.Errno {
	return map[string]api.Errno{
		"": api.ErrPath, "ab": api.ErrPath, "ab/c": api.ErrPath, "A.b/c": api.ErrPath, "a.b//c": api.ErrPath, "a.b/": api.ErrPath, "/a.b": api.ErrPath,
		"a.b/.c": api.ErrPath, "a.b/c.": api.ErrPath, "a.b/c!": api.ErrPath, "a.b/c d": api.ErrPath, "a.b/\xff": api.ErrPath, "-a.b": api.ErrPath, "a.b/é": api.ErrPath, "a.b/@v": api.ErrPath,
		"a.b/v1": api.ErrMajor, "a.b/v0": api.ErrMajor, "a.b/v02": api.ErrMajor, "a.b/v1234567890": api.ErrMajor,
		"a.b/" + strings.Repeat("c", api.MaxPath-3): api.ErrLong, strings.Repeat("!", api.MaxPath+1): api.ErrLong, strings.Repeat("a", 1<<20): api.ErrLong,
	}
}

// wrongVersions is versions that mod.Check refuses of a.b/c, and its errors.
func wrongVersions() map[string]api.Errno {
	return map[string]api.Errno{
		"": api.ErrVersion, "v1": api.ErrVersion, "v1.0": api.ErrVersion, "1.0.0": api.ErrVersion, "v01.0.0": api.ErrVersion, "v1.0.0-": api.ErrVersion, "v1.0.0+x": api.ErrVersion,
		"latest": api.ErrVersion, "v1.0.0 ": api.ErrVersion, "v1.0.0-é": api.ErrVersion, "v1.0.0-" + strings.Repeat("a", api.MaxVersion-6): api.ErrVersion,
		"v2.0.0": api.ErrMajor, "v10.0.0-a": api.ErrMajor,
	}
}

// wrongMods is modules that mod.Check refuses, and its errors.
func wrongMods() map[api.Mod]api.Errno {
	l := map[api.Mod]api.Errno{at("a.b/c/v2", "v1.0.0"): api.ErrMajor, at("a.b/c/v2", "v3.0.0"): api.ErrMajor, at("a.b/v10", "v1.0.0"): api.ErrMajor}
	for path, e := range wrongPaths() {
		l[at(path, "v1.0.0")] = e
		l[at(path, "none")] = e
	}
	for version, e := range wrongVersions() {
		l[at("a.b/c", version)] = e
	}
	return l
}

// wrongKinds is kinds that are none.
func wrongKinds() []string {
	return []string{"", "txt", "Info", "INFO", "zip ", " mod", ".zip", "infos", "inf", "info\x00", "ziphash", "list", "latest", "lock", "\xff"}
}

// longest is a module with the longest URL that there may be.
func longest() api.Mod {
	return at("a.b/"+strings.Repeat("C", api.MaxPath-4), "v1.0.0-"+strings.Repeat("A", api.MaxVersion-7))
}

func TestP11_3_URL(t *testing.T) {
	for m, front := range map[api.Mod]string{
		at("a.b/c", "v1.0.0"):                           "/a.b/c/@v/v1.0.0.",
		at("a.b", "v0.0.0"):                             "/a.b/@v/v0.0.0.",
		at("a.b/C", "v1.0.0"):                           "/a.b/!c/@v/v1.0.0.",
		at("a.b/CD/eF/v2", "v2.3.4-Rc.1-X"):             "/a.b/!c!d/e!f/v2/@v/v2.3.4-!rc.1-!x.",
		at("a-1.b/c_d~e-f.g", "v0.1.2-3.4.a"):           "/a-1.b/c_d~e-f.g/@v/v0.1.2-3.4.a.",
		at("a.b/info", "v1.0.0-zip"):                    "/a.b/info/@v/v1.0.0-zip.",
		at("a.b", "v0.0.0-20200102030405-abcdefabcdef"): "/a.b/@v/v0.0.0-20200102030405-abcdefabcdef.",
		longest(): "/a.b/" + strings.Repeat("!c", api.MaxPath-4) + "/@v/v1.0.0-" + strings.Repeat("!a", api.MaxVersion-7) + ".",
	} {
		for _, base := range []string{"", "/base", strings.Repeat("b", 40)} {
			n := web(t)
			c := client(t, n, base, usual)
			for _, kind := range kinds() {
				for _, c := range []*proxy.Client{c, c.Remember()} {
					url, e := c.URL(m, kind)
					isError(t, fmt.Sprint("URL of ", m), e, api.OK)
					is(t, fmt.Sprint("URL of ", m), url, front+kind)
				}
			}
			is(t, "Total", n.Total(), 0)
		}
	}
}

// isNoURL fails the test unless URL answers an error, with nothing beside it.
func isNoURL(t *testing.T, m api.Mod, kind string, want api.Errno) {
	t.Helper()
	n := web(t)
	url, e := client(t, n, "", usual).URL(m, kind)
	isError(t, "URL of "+brief(m)+" and "+brief(kind), e, want)
	is(t, "URL of "+brief(m)+" and "+brief(kind), url, "")
	is(t, "Total", n.Total(), 0)
}

func TestP11_3_Order(t *testing.T) {
	for _, kind := range wrongKinds() {
		isNoURL(t, one(), kind, api.ErrKind)
		isNoURL(t, longest(), kind, api.ErrKind)
	}
	for m, want := range wrongMods() {
		isError(t, "mod.Check of "+brief(m), mod.Check(m), want)
		for _, kind := range append(wrongKinds(), kinds()...) {
			isNoURL(t, m, kind, want)
		}
	}
}

// Each call asks for the URL that the chapter names, behind the base.
func TestP11_3_WhatIsRequested(t *testing.T) {
	for _, m := range []api.Mod{one(), at("a.b/CD/eF/v2", "v2.3.4-Rc.1-X"), longest()} {
		for _, base := range []string{"", "/base", strings.Repeat("b", 40)} {
			for _, x := range each(m) {
				n := web(t)
				c := client(t, n, base, usual)
				refuses(t, "no page", c, x, api.ErrNone)
				is(t, "URLs of "+x.name, strings.Join(n.URLs(), " "), base+x.url())
				lay(t, n, base+x.url(), "\x00")
				refuses(t, "a wrong page", c.Remember(), x, api.ErrReply)
				asked(t, x.name, n, base+x.url(), 2)
			}
		}
	}
}

// What may not be is not asked for, not even once.
func TestP11_3_NothingIsRequested(t *testing.T) {
	clients(t, usual, func(t *testing.T, n *net.Net, c *proxy.Client) {
		for m, want := range wrongMods() {
			for _, x := range each(m)[2:] {
				refuses(t, brief(m), c, x, want)
			}
		}
		for path, want := range wrongPaths() {
			isError(t, "mod.CheckPath of "+brief(path), mod.CheckPath(path), want)
			for _, x := range each(at(path, ""))[:2] {
				refuses(t, brief(path), c, x, want)
			}
		}
		is(t, "Total", n.Total(), 0)
	})
}
