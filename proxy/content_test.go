package proxy_test

import (
	"fmt"
	"strings"
	"testing"

	"mews/api"
	"mews/ark"
	"mews/modfile"
	"mews/net"
	"mews/proxy"
)

// isContent fails the test unless Manifest or Zip makes this of a page.
func isContent(t *testing.T, what string, x call, page string, want answer) {
	t.Helper()
	clients(t, usual, func(t *testing.T, n *net.Net, c *proxy.Client) {
		t.Helper()
		lay(t, n, x.url(), page)
		for range 2 {
			answers(t, what, c, x, want)
		}
	})
}

// manifestOf is Manifest of a path, at a version that it may have.
func manifestOf(path string) call { return call{"Manifest", path, "v1.0.0"} }

func TestP11_6_Manifests(t *testing.T) {
	for _, text := range []string{
		"module a.b/c", "module a.b/c\n", "\n\n  module\ta.b/c // mine\n", "// \xff\nmodule a.b/c\n",
		"module a.b/c\n\ngo 1.17\n\nrequire (\n\tx.y/z v1.2.0 // indirect\n)\n", "require x.y/z v1.2.0\ngo 1.0\nmodule a.b/c\nretract v1.0.0\n",
		"module a.b/c\nreplace a.b/c => x.y/z v1.0.0\nexclude x.y/z v1.3.0\n",
		"module a.b/c\n" + strings.Repeat("//\n", (api.MaxText-13)/3),
		"module a.b/c\n//" + strings.Repeat("x", api.MaxLine-2),
	} {
		isContent(t, brief(text), manifestOf("a.b/c"), text, answer{text, api.OK})
	}
	for _, path := range []string{"a.b", "a.b/C", "a.b/c/d", "a.b/c-d_e~f"} {
		isContent(t, path, manifestOf(path), "module "+path+"\n", answer{"module " + path + "\n", api.OK})
	}
	isContent(t, "a major", call{"Manifest", "a.b/c/v2", "v2.0.0"}, "module a.b/c/v2", answer{"module a.b/c/v2", api.OK})
}

// Of each error that modfile.Parse has.
func TestP11_6_WrongManifests(t *testing.T) {
	for text, want := range map[string]api.Errno{
		"":                                         api.ErrNone,
		"go 1.17\n":                                api.ErrNone,
		"module\n":                                 api.ErrSyntax,
		"module a.b/c\x00\n":                       api.ErrSyntax,
		"module a.b/c\r\n":                         api.ErrSyntax,
		"module a.b/c\ngo 1.017\n":                 api.ErrSyntax,
		"module a.b/c\nrequire (\n":                api.ErrSyntax,
		"a.b/c":                                    api.ErrSyntax,
		"module a.b/c\nmodule a.b/c\n":             api.ErrTwice,
		"module a.b/c\nrequire a.b/c v1.0.0\n":     api.ErrTwice,
		"module a.b/c\nrequire x.y/z v2.0.0\n":     api.ErrMajor,
		"module a.b/c\nrequire x.y/z v2\n":         api.ErrVersion,
		"module a.b/c\nrequire xy v1.0.0\n":        api.ErrPath,
		"module a.b/c\nretract [v2.0.0, v1.0.0]\n": api.ErrRange,
		"module a.b/c\nexclude (\n" + manyLines("x.y/z v1.0.%d\n", api.MaxMods+1) + ")\n":       api.ErrMany,
		"module a.b/c\n//" + strings.Repeat("x", api.MaxLine-1):                                 api.ErrLong,
		"module a.b/c\n" + strings.Repeat("//\n", (api.MaxText-13)/3) + strings.Repeat("\n", 3): api.ErrLong,
	} {
		_, _, e := modfile.Parse(text)
		isError(t, "modfile.Parse of "+brief(text), e, want)
		isContent(t, brief(text), manifestOf("a.b/c"), text, answer{e: api.ErrReply})
	}
}

// manyLines is lines, each with a number.
func manyLines(form string, count int) string {
	var b strings.Builder
	for i := range count {
		fmt.Fprintf(&b, form, i)
	}
	return b.String()
}

func TestP11_6_OtherModulesManifests(t *testing.T) {
	for _, path := range []string{"a.b/d", "a.b/C", "a.b", "a.b/c/d", "a.b/c/v2", "a.b/cc", "x.y/a.b/c"} {
		isContent(t, path, manifestOf("a.b/c"), "module "+path+"\n", answer{e: api.ErrReply})
	}
	isContent(t, "lower case", manifestOf("a.b/C"), "module a.b/c\n", answer{e: api.ErrReply})
	isContent(t, "escaped", manifestOf("a.b/C"), "module a.b/!c\n", answer{e: api.ErrReply})
	isContent(t, "without a major", call{"Manifest", "a.b/c/v2", "v2.0.0"}, "module a.b/c\n", answer{e: api.ErrReply})
}

func TestP11_6_Zips(t *testing.T) {
	for _, m := range []api.Mod{one(), at("a.b/C/v2", "v2.0.0-Rc"), at("a.b", pseudoOne)} {
		for _, files := range [][]api.File{
			nil,
			{file("x", "")},
			{file("c.go", "package c\n")},
			{file("z", "1"), file("a", "2"), file("m/n/o", "3"), file("go.mod", "module "+m.Path+"\n"), file("Z y", "\x00\xff")},
			{file(ark.Prefix(m)+"x", "twice")},
		} {
			page := packed(t, m, files...)
			unpacked, e := ark.Unpack([]byte(page))
			done(t, e)
			want, e := ark.Strip(unpacked, m)
			done(t, e)
			isContent(t, told(files), call{"Zip", m.Path, m.Version}, page, answer{page + told(want), api.OK})
		}
	}
}

// What Zip tells beside the bytes are the files, by rising names.
func TestP11_6_ZipFiles(t *testing.T) {
	n := web(t)
	page := packed(t, one(), file("d/y", "2"), file("A", "1"), file("z", ""))
	lay(t, n, call{"Zip", "a.b/c", "v1.0.0"}.url(), page)
	b, files, e := client(t, n, "", usual).Zip(one())
	isError(t, "Zip", e, api.OK)
	is(t, "Zip, its bytes", string(b), page)
	is(t, "Zip, its files", told(files), "A=1 d/y=2 z=")
}

// largest is an archive of just so many bytes.
func largest(t *testing.T, m api.Mod, size int) string {
	t.Helper()
	empty := len(packed(t, m, file("x", "")))
	b, e := ark.Pack(ark.Add([]api.File{file("x", strings.Repeat("x", size-empty))}, m))
	done(t, e)
	return string(b)
}

func TestP11_6_LongestZip(t *testing.T) {
	page := largest(t, one(), api.MaxArchive)
	is(t, "its length", len(page), api.MaxArchive)
	n := web(t, call{"Zip", "a.b/c", "v1.0.0"}.url(), page)
	b, files, e := client(t, n, "", proxy.Opts{Tries: 1, Patience: 1, Budget: api.MaxArchive}).Zip(one())
	isError(t, "Zip", e, api.OK)
	is(t, "Zip", string(b) == page && len(files) == 1 && files[0].Name == "x", true)
	refuses(t, "too long for Budget", client(t, n, "", proxy.Opts{Tries: 1, Patience: 1, Budget: api.MaxArchive - 1}), call{"Zip", "a.b/c", "v1.0.0"}, api.ErrBudget)
}

// Of each error that ark.Unpack has.
func TestP11_6_WrongZips(t *testing.T) {
	good := packed(t, one(), file("x", "text"), file("y", "more"))
	many := strings.Repeat(good[:strings.Index(good[1:], "PK\x03\x04")+1], api.MaxEntries+1)
	for text, want := range map[string]api.Errno{
		"":                                       api.ErrForm,
		"x":                                      api.ErrForm,
		good + "x":                               api.ErrForm,
		good[:len(good)-1]:                       api.ErrForm,
		good[:46]:                                api.ErrShort,
		good[:20]:                                api.ErrShort,
		strings.Replace(good, "text", "tent", 1): api.ErrSum,
		strings.Replace(good, "/x", "/\\", 1):    api.ErrName,
		strings.Replace(good, "/x", "/Y", 1):     api.ErrTwice,
		many:                                     api.ErrMany,
		strings.Repeat("x", api.MaxArchive+1):    api.ErrLong,
		largest(t, one(), api.MaxArchive) + "\x00": api.ErrLong,
	} {
		_, e := ark.Unpack([]byte(text))
		isError(t, "ark.Unpack of "+brief(text), e, want)
		isContent(t, brief(text), call{"Zip", "a.b/c", "v1.0.0"}, text, answer{e: api.ErrReply})
	}
}

// What ark.Strip refuses: the prefix of another module, or none.
func TestP11_6_OtherModulesZips(t *testing.T) {
	x := call{"Zip", "a.b/c", "v1.0.0"}
	for _, m := range []api.Mod{at("a.b/d", "v1.0.0"), at("a.b/c", "v1.0.1"), at("a.b/C", "v1.0.0"), at("a.b/c/d", "v1.0.0"), at("a.b", "v1.0.0"), at("x/a.b/c", "v1.0.0")} {
		isContent(t, brief(m), x, packed(t, m, file("x", "text")), answer{e: api.ErrReply})
	}
	for _, names := range [][]string{{"x"}, {"a.b/c@v1.0.0"}, {"a.b/c@v1.0.0x"}, {"a.b/c@v1.0.0/x", "y"}, {"a", "a.b/c@v1.0.0/x"}, {"a.b/c@v1.0.0/x", "a.b/c@v1.0.1/x"}} {
		var files []api.File
		for _, name := range names {
			files = append(files, file(name, "text"))
		}
		b, e := ark.Pack(files)
		done(t, e)
		isContent(t, brief(names), x, string(b), answer{e: api.ErrReply})
	}
	// A module whose case differs has another URL, and another prefix.
	isContent(t, "case", call{"Zip", "a.b/C", "v1.0.0"}, packed(t, one(), file("x", "text")), answer{e: api.ErrReply})
}
