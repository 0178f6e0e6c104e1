package proxy_test

import (
	"fmt"
	"math/rand"
	"strings"
	"testing"

	"mews/api"
	"mews/net"
	"mews/proxy"
)

// parses fails the test unless ParseInfo takes a text just if the model does.
func parses(t *testing.T, text string) {
	t.Helper()
	got, e := proxy.ParseInfo([]byte(text))
	want, ok := modelInfo(text)
	if !ok {
		isError(t, "ParseInfo of "+brief(text), e, api.ErrReply)
	} else {
		isError(t, "ParseInfo of "+brief(text), e, api.OK)
	}
	is(t, "ParseInfo of "+brief(text), got, want)
}

// infoOf is the text of an info.
func infoOf(version, time string) string {
	return `{"Version":"` + version + `","Time":"` + time + `"}`
}

func TestP11_5_Infos(t *testing.T) {
	for _, version := range []string{"v1.0.0", "v0.0.0", "v999999999.0.0-a.B-c", pseudoOne, "v1.0.0-" + strings.Repeat("a", api.MaxVersion-7)} {
		for _, time := range []string{"2020-01-02T03:04:05Z", "0000-01-01T00:00:00Z", "9999-12-31T23:59:59Z", "2021-02-31T00:00:00Z"} {
			i, e := proxy.ParseInfo([]byte(infoOf(version, time)))
			isError(t, "ParseInfo", e, api.OK)
			is(t, "ParseInfo", i, proxy.Info{Version: version, Time: time})
			is(t, "FormatInfo", string(proxy.FormatInfo(i)), infoOf(version, time))
		}
	}
}

// Each number at its least and its greatest, and one beyond.
func TestP11_5_Numbers(t *testing.T) {
	for _, x := range []struct {
		time string
		ok   bool
	}{
		{"0000-01-02T03:04:05Z", true}, {"9999-01-02T03:04:05Z", true},
		{"2020-00-02T03:04:05Z", false}, {"2020-01-02T03:04:05Z", true}, {"2020-12-02T03:04:05Z", true}, {"2020-13-02T03:04:05Z", false}, {"2020-99-02T03:04:05Z", false},
		{"2020-01-00T03:04:05Z", false}, {"2020-01-01T03:04:05Z", true}, {"2020-01-31T03:04:05Z", true}, {"2020-01-32T03:04:05Z", false},
		{"2020-01-02T00:04:05Z", true}, {"2020-01-02T23:04:05Z", true}, {"2020-01-02T24:04:05Z", false},
		{"2020-01-02T03:00:05Z", true}, {"2020-01-02T03:59:05Z", true}, {"2020-01-02T03:60:05Z", false},
		{"2020-01-02T03:04:00Z", true}, {"2020-01-02T03:04:59Z", true}, {"2020-01-02T03:04:60Z", false},
	} {
		_, e := proxy.ParseInfo([]byte(infoOf("v1.0.0", x.time)))
		is(t, "whether ParseInfo takes "+x.time, e == api.OK, x.ok)
		parses(t, infoOf("v1.0.0", x.time))
	}
	for _, form := range []string{"20%s-01-02T03:04:05Z", "2020-%s-02T03:04:05Z", "2020-01-%sT03:04:05Z", "2020-01-02T%s:04:05Z", "2020-01-02T03:%s:05Z", "2020-01-02T03:04:%sZ"} {
		for number := range 100 {
			parses(t, infoOf("v1.0.0", fmt.Sprintf(form, fmt.Sprintf("%02d", number))))
		}
		for _, wrong := range []string{"", "1", "001", " 1", "1 ", "+1", "-1", "0x", "x0", "１", "1.", ".1"} {
			parses(t, infoOf("v1.0.0", fmt.Sprintf(form, wrong)))
		}
	}
}

func TestP11_5_WrongForms(t *testing.T) {
	for _, text := range []string{
		"", "{}", "null", "{", "}", `"`, `"}`, `{"Version":"`, `{"Version":""}`, `{"Version":"v1.0.0"}`, `{"Time":"2020-01-02T03:04:05Z"}`,
		`{"Version":"v1.0.0","Time":""}`, `{"Version":"v1.0.0","Time":"`, `{"Version":"v1.0.0","Time":"}`, `{"Version":"","Time":"2020-01-02T03:04:05Z"}`,
		`{"Time":"2020-01-02T03:04:05Z","Version":"v1.0.0"}`, `{"version":"v1.0.0","time":"2020-01-02T03:04:05Z"}`, `{"VERSION":"v1.0.0","TIME":"2020-01-02T03:04:05Z"}`,
		`{"Name":"v1.0.0","Time":"2020-01-02T03:04:05Z"}`, `{"Version":"v1.0.0","Date":"2020-01-02T03:04:05Z"}`, `{'Version':'v1.0.0','Time':'2020-01-02T03:04:05Z'}`,
		`{"Version": "v1.0.0","Time":"2020-01-02T03:04:05Z"}`, `{"Version":"v1.0.0", "Time":"2020-01-02T03:04:05Z"}`, `{ "Version":"v1.0.0","Time":"2020-01-02T03:04:05Z" }`,
		goodInfo + "\n", goodInfo + " ", " " + goodInfo, "\n" + goodInfo, goodInfo + goodInfo, goodInfo + "\x00", "\ufeff" + goodInfo, goodInfo[1:], goodInfo[:len(goodInfo)-1],
		`{"Version":"v1.0.0","Time":"2020-01-02T03:04:05Z","Origin":""}`, `{"Version":"v1.0.0","Version":"v1.0.0","Time":"2020-01-02T03:04:05Z"}`,
		`{"Version":"v1.0.0","Time":"2020-01-02T03:04:05Z","Time":"2020-01-02T03:04:05Z"}`, `{"Version":"v1.0.0","Time":"","Time":"2020-01-02T03:04:05Z"}`,
		infoOf("v1", "2020-01-02T03:04:05Z"), infoOf("v1.0", "2020-01-02T03:04:05Z"), infoOf("v1.0.0 ", "2020-01-02T03:04:05Z"), infoOf(" v1.0.0", "2020-01-02T03:04:05Z"), infoOf("v01.0.0", "2020-01-02T03:04:05Z"),
		infoOf(`v1.0.0\n`, "2020-01-02T03:04:05Z"), infoOf("v1.0.0-"+strings.Repeat("a", api.MaxVersion-6), "2020-01-02T03:04:05Z"), infoOf("latest", "2020-01-02T03:04:05Z"), infoOf(`v1.0.0"`, "2020-01-02T03:04:05Z"),
		infoOf("v1.0.0", "2020-01-02"), infoOf("v1.0.0", "2020-01-02T03:04:05"), infoOf("v1.0.0", "2020-01-02T03:04:05z"), infoOf("v1.0.0", "2020-01-02t03:04:05Z"), infoOf("v1.0.0", "2020-01-02 03:04:05Z"),
		infoOf("v1.0.0", "2020-01-02T03:04:05+00:00"), infoOf("v1.0.0", "2020-01-02T03:04:05.0Z"), infoOf("v1.0.0", "2020/01/02T03:04:05Z"), infoOf("v1.0.0", "20200102030405"), infoOf("v1.0.0", "02020-01-02T03:04:05Z"),
		infoOf("v1.0.0", "2020-01-02T03-04-05Z"), infoOf("v1.0.0", "2020:01:02T03:04:05Z"), infoOf("v1.0.0", "-020-01-02T03:04:05Z"), infoOf("v1.0.0", "２020-01-02T03:04:05Z"), infoOf("v1.0.0", "2020-01-02T03:04:05Z\""),
		strings.Repeat(goodInfo, 10000), strings.Repeat("{", 1<<20),
	} {
		i, e := proxy.ParseInfo([]byte(text))
		isError(t, "ParseInfo of "+brief(text), e, api.ErrReply)
		is(t, "ParseInfo of "+brief(text), i, proxy.Info{})
	}
	i, e := proxy.ParseInfo(nil)
	isError(t, "ParseInfo of nil", e, api.ErrReply)
	is(t, "ParseInfo of nil", i, proxy.Info{})
}

// Each byte of an info as each other one, gone, and with another one beside it.
func TestP11_5_EachByte(t *testing.T) {
	for _, text := range []string{goodInfo, infoOf("v1.0.0-Rc.1", "1999-12-31T23:59:59Z")} {
		for i := range len(text) + 1 {
			for c := range 256 {
				one := string([]byte{byte(c)})
				parses(t, text[:i]+one+text[i:])
				if i < len(text) {
					parses(t, text[:i]+one+text[i+1:])
				}
			}
			parses(t, text[:i])
			parses(t, text[i:])
			if i < len(text) {
				parses(t, text[:i]+text[i+1:])
				parses(t, text[:i]+text[i:i+1]+text[i:])
			}
		}
	}
}

func TestP11_5_FormatOfAny(t *testing.T) {
	chance := rand.New(rand.NewSource(115))
	texts := []string{"", "v1.0.0", "v1", `"`, `\`, "\n", "\x00", "\xff", "é", `","Time":"`, `"}`, "{", "2020-01-02T03:04:05Z", "2020-13-02T03:04:05Z", "<&>", strings.Repeat("x", 1<<16)}
	for range 2000 {
		i := proxy.Info{Version: draw(chance, texts...), Time: draw(chance, texts...)}
		b := proxy.FormatInfo(i)
		is(t, "FormatInfo of "+brief(i), string(b), infoOf(i.Version, i.Time))
		parses(t, string(b))
	}
}

// isInfo fails the test unless Info or Latest makes this of a page.
func isInfo(t *testing.T, x call, page string, want answer) {
	t.Helper()
	clients(t, usual, func(t *testing.T, n *net.Net, c *proxy.Client) {
		t.Helper()
		lay(t, n, x.url(), page)
		for range 2 {
			answers(t, brief(x)+" of "+brief(page), c, x, want)
		}
	})
}

func TestP11_5_Info(t *testing.T) {
	const time = "2020-01-02T03:04:05Z"
	wrong := answer{e: api.ErrReply}
	for _, m := range []api.Mod{one(), at("a.b/C/v2", "v2.0.0-Rc"), at("a.b", pseudoOne), longest()} {
		x := call{"Info", m.Path, m.Version}
		isInfo(t, x, infoOf(m.Version, time), answer{m.Version + time, api.OK})
		for _, other := range []string{"v1.0.1", "v2.0.0", strings.ToLower(m.Version) + "a", m.Version + "-a", "v1", "", strings.ToUpper(m.Version)} {
			isInfo(t, x, infoOf(other, time), wrong)
		}
		for _, page := range []string{"", "{}", infoOf(m.Version, time) + "\n", infoOf(m.Version, "2020-01-02T03:04:60Z"), infoOf(m.Version, ""), strings.Repeat("x", 1<<20)} {
			isInfo(t, x, page, wrong)
		}
	}
	// Versions that differ in the case of letters alone are others.
	isInfo(t, call{"Info", "a.b", "v1.0.0-RC"}, infoOf("v1.0.0-rc", time), wrong)
	isInfo(t, call{"Info", "a.b", "v1.0.0-rc"}, infoOf("v1.0.0-RC", time), wrong)
}

func TestP11_5_Latest(t *testing.T) {
	const time = "1999-12-31T23:59:59Z"
	for path, good := range map[string][]string{
		"a.b":            {"v0.0.0", "v1.0.0", "v1.2.3-a", pseudoOne, pseudoTwo},
		"a.b/C":          {"v0.1.0", "v1.999999999.0"},
		"a.b/c/v2":       {"v2.0.0", "v2.0.0-Rc", "v2.0.1-0.20200102030405-abcdefabcdef"},
		"a.b/v10":        {"v10.0.0"},
		"a.b/v999999999": {"v999999999.0.0"},
	} {
		x := call{name: "Latest", path: path}
		for _, version := range good {
			isInfo(t, x, infoOf(version, time), answer{version + time, api.OK})
		}
		for _, version := range []string{"v3.0.0", "v20.0.0", "v99999999.0.0", "v1", "", "x"} {
			isInfo(t, x, infoOf(version, time), answer{e: api.ErrReply})
		}
		for _, page := range []string{"", "{}", " " + infoOf(good[0], time), infoOf(good[0], "1999-12-32T23:59:59Z"), good[0]} {
			isInfo(t, x, page, answer{e: api.ErrReply})
		}
	}
	isInfo(t, call{name: "Latest", path: "a.b/c/v2"}, infoOf("v1.0.0", time), answer{e: api.ErrReply})
	isInfo(t, call{name: "Latest", path: "a.b/c"}, infoOf("v2.0.0", time), answer{e: api.ErrReply})
}
