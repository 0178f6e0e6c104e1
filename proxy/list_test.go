package proxy_test

import (
	"fmt"
	"strings"
	"testing"

	"mews/api"
	"mews/net"
	"mews/proxy"
)

// lists fails the test unless List of a path makes this of a page.
func lists(t *testing.T, what, path, page string, want answer) {
	t.Helper()
	clients(t, usual, func(t *testing.T, n *net.Net, c *proxy.Client) {
		t.Helper()
		x := call{name: "List", path: path}
		lay(t, n, x.url(), page)
		for range 2 {
			l, e := c.List(path)
			isError(t, "List, "+what, e, want.e)
			is(t, "List, "+what, strings.Join(l, " "), want.text)
			is(t, "List, how many, "+what, len(l), len(strings.Fields(want.text)))
		}
	})
}

const (
	pseudoOne   = "v0.0.0-20200102030405-abcdefabcdef"
	pseudoTwo   = "v1.2.4-0.20200102030405-abcdefabcdef"
	pseudoThree = "v1.2.3-rc.0.20200102030405-abcdefabcdef"
)

func TestP11_4_Lists(t *testing.T) {
	for page, want := range map[string]string{
		"":                                 "",
		"\n":                               "",
		"\n\n\n":                           "",
		"v1.0.0":                           "v1.0.0",
		"v1.0.0\n":                         "v1.0.0",
		"\nv1.0.0":                         "v1.0.0",
		"v1.0.0\n\n\nv0.1.0":               "v0.1.0 v1.0.0",
		"v1.10.0\nv1.9.0\nv1.2.0":          "v1.2.0 v1.9.0 v1.10.0",
		"v1.0.0\nv1.0.0\nv1.0.0\n":         "v1.0.0",
		"v1.0.0\nv0.1.0\nv1.0.0\nv0.1.0\n": "v0.1.0 v1.0.0",
		"v1.0.0\nv1.0.0-rc\nv1.0.0-a.2\nv1.0.0-a.10\nv1.0.0-0":                     "v1.0.0-0 v1.0.0-a.2 v1.0.0-a.10 v1.0.0-rc v1.0.0",
		"v1.0.0-A\nv1.0.0-a\n":                                                     "v1.0.0-A v1.0.0-a",
		"x\nv1\nv1.0\nV1.0.0\nv01.0.0\nv1.0.0+x\nv1.0.0-\n1.0.0\nv1.0.0.0\n!\n~\n": "",
		"v1.0.0v1.0.0\nv1.0.0,v0.1.0\n":                                            "",
		"v2.0.0\nv1.0.0\nv3.0.0-a\nv10.0.0":                                        "v1.0.0",
		"v0.0.0\nv1.999999999.999999999\nv1.1000000000.0":                          "v0.0.0 v1.999999999.999999999",
		"v1.0.0\n" + pseudoOne + "\n" + pseudoTwo + "\n" + pseudoThree + "\n":      "v1.0.0",
		pseudoOne: "",
		"v1.0.0-0.20200102030405-abcdefabcdef\nv0.0.0-20201302030405-abcdefabcdef\nv0.0.0-20200102030405-abcdefabcde\nv1.2.0-20200102030405-abcdefabcdef": "v0.0.0-20200102030405-abcdefabcde v0.0.0-20201302030405-abcdefabcdef v1.0.0-0.20200102030405-abcdefabcdef v1.2.0-20200102030405-abcdefabcdef",
		"v1.0.0-" + strings.Repeat("a", api.MaxVersion-7) + "\nv1.0.0-" + strings.Repeat("a", api.MaxVersion-6):                                           "v1.0.0-" + strings.Repeat("a", api.MaxVersion-7),
	} {
		lists(t, brief(page), "a.b/c", page, answer{want, api.OK})
	}
}

func TestP11_4_Majors(t *testing.T) {
	page := "v0.1.0\nv1.0.0\nv2.0.0\nv2.1.0-a\nv3.0.0\nv10.0.0\nv999999999.0.0\nv2.0.1-0.20200102030405-abcdefabcdef\nv2.0.0\n"
	for path, want := range map[string]string{
		"a.b/c": "v0.1.0 v1.0.0", "a.b": "v0.1.0 v1.0.0", "a.b/C/v2/d": "v0.1.0 v1.0.0", "a.b/c/v2": "v2.0.0 v2.1.0-a",
		"a.b/C/v3": "v3.0.0", "a.b/v10": "v10.0.0", "a.b/v999999999": "v999999999.0.0", "a.b/v4": "",
	} {
		lists(t, path, path, page, answer{want, api.OK})
	}
}

func TestP11_4_EveryByte(t *testing.T) {
	for c := range 256 {
		one := string([]byte{byte(c)})
		want := answer{"v0.1.0", api.OK}
		if c != '\n' && (c < 0x21 || c > 0x7e) {
			want = answer{"", api.ErrReply}
		}
		lists(t, fmt.Sprintf("byte %x in a line", c), "a.b/c", "v0.1.0\nx"+one+"y\n", want)
		lists(t, fmt.Sprintf("byte %x ahead", c), "a.b/c", one+"\nv0.1.0", want)
		lists(t, fmt.Sprintf("byte %x at the end", c), "a.b/c", "v0.1.0\n"+one, want)
	}
	for _, page := range []string{"v1.0.0 ", " v1.0.0", "v1.0.0\r\n", "v1.0.0\t", "v1.0.0\n \n", "v1.0.0\né", "v1.0.0\x00", "v1.0.0\x7f", "v1.0.0\x80", "v1.0.0\n\xff"} {
		lists(t, brief(page), "a.b/c", page, answer{"", api.ErrReply})
	}
}

func TestP11_4_Lengths(t *testing.T) {
	for _, fill := range []string{"\n", "x"} {
		for length, want := range map[int]answer{
			api.MaxText - 1: {"v1.0.0", api.OK}, api.MaxText: {"v1.0.0", api.OK}, api.MaxText + 1: {"", api.ErrReply}, 2 * api.MaxText: {"", api.ErrReply},
		} {
			page := "v1.0.0\n" + strings.Repeat(fill, length-7)
			lists(t, fmt.Sprint(length, " bytes"), "a.b/c", page, want)
		}
	}
	lists(t, "a version cut by the end", "a.b/c", strings.Repeat("x\n", (api.MaxText-6)/2)+"v1.0.0", answer{"v1.0.0", api.OK})
	lists(t, "a version behind the end", "a.b/c", strings.Repeat("\n", api.MaxText-5)+"v1.0.0", answer{"", api.ErrReply})
}

// Many versions, each twice, falling.
func TestP11_4_Many(t *testing.T) {
	var page, want []string
	for i := range 3000 {
		v := fmt.Sprintf("v1.%d.0", i)
		want = append(want, v)
		page = append([]string{v}, page...)
	}
	lists(t, "many", "a.b/c", strings.Join(append(page, page...), "\n"), answer{strings.Join(want, " "), api.OK})
}

func TestP11_4_Order(t *testing.T) {
	wrong := strings.Repeat(" ", api.MaxText+1)
	for _, x := range []struct {
		budget int
		want   api.Errno
	}{{api.MaxText, api.ErrBudget}, {api.MaxText + 1, api.ErrReply}} {
		n := web(t, "/a.b/c/@v/list", wrong)
		refuses(t, "too long for both", client(t, n, "", proxy.Opts{Tries: 1, Patience: 1, Budget: x.budget}), call{name: "List", path: "a.b/c"}, x.want)
	}
	// A reply that is refused is not asked again.
	n := web(t, "/a.b/c/@v/list", "v1.0.0\n")
	befall(t, n, "/a.b/c/@v/list", lost(), forged(" "))
	c := client(t, n, "", usual)
	refuses(t, "forged", c, call{name: "List", path: "a.b/c"}, api.ErrReply)
	asked(t, "forged", n, "/a.b/c/@v/list", 2)
	answers(t, "honest", c, call{name: "List", path: "a.b/c"}, answer{"v1.0.0", api.OK})
}
