package mod_test

import (
	"fmt"
	"math"
	"strings"
	"testing"

	"mews/api"
	"mews/mod"
)

func TestExamplesOfPseudoVersions(t *testing.T) {
	is(t, "without a base", pseudo(1, "", stamp, rev), told{"v1.0.0-20200102030405-abcdefabcdef", api.OK})
	is(t, "of a base", pseudo(1, "v1.2.3", stamp, rev), told{"v1.2.4-0.20200102030405-abcdefabcdef", api.OK})
	is(t, "of a pre", pseudo(1, "v1.2.3-rc", stamp, rev), told{"v1.2.3-rc.0.20200102030405-abcdefabcdef", api.OK})
	is(t, "split", splitPseudo("v1.2.4-0.20200102030405-abcdefabcdef"), origin{"v1.2.3", "20200102030405", "abcdefabcdef", true})
	is(t, "no split", splitPseudo("v1.2.0-0.20200102030405-abcdefabcdef"), origin{})
}

// pseudoCases are made of a major and a base, with the common time and revision.
var pseudoCases = []struct {
	major int
	base  string
	want  string
}{
	{0, "", "v0.0.0-" + end},
	{2, "", "v2.0.0-" + end},
	{999999999, "", "v999999999.0.0-" + end},
	{0, "v0.0.0", "v0.0.1-0." + end},
	{0, "v0.0.9", "v0.0.10-0." + end},
	{1, "v1.0.99", "v1.0.100-0." + end},
	{3, "v3.7.0", "v3.7.1-0." + end},
	{1, "v1.0.999999998", "v1.0.999999999-0." + end},
	{999999999, "v999999999.999999999.999999998", "v999999999.999999999.999999999-0." + end},
	{1, "v1.0.0-0", "v1.0.0-0.0." + end},
	{1, "v1.2.3-0.0", "v1.2.3-0.0.0." + end},
	{1, "v1.2.3-rc.1", "v1.2.3-rc.1.0." + end},
	{1, "v1.2.3--", "v1.2.3--.0." + end},
	{1, "v1.2.3-a.0", "v1.2.3-a.0.0." + end},
	{1, "v1.0.999999999-a", "v1.0.999999999-a.0." + end},
	{1, filled("v1.2.3-", "a", 30), filled("v1.2.3-", "a", 30) + ".0." + end},
}

func TestP3_3_PseudoAndBack(t *testing.T) {
	for _, c := range pseudoCases {
		is(t, fmt.Sprintf("Pseudo(%d, %q)", c.major, c.base), pseudo(c.major, c.base, stamp, rev), told{c.want, api.OK})
		is(t, fmt.Sprintf("SplitPseudo(%q)", c.want), splitPseudo(c.want), origin{c.base, stamp, rev, true})
	}
	is(t, "bytes of the longest", len(pseudoCases[8].want), 60)
}

func TestP3_3_PseudoErrorsHaveTheirOrder(t *testing.T) {
	for _, c := range []struct {
		what            string
		major           int
		base, time, rev string
		want            api.Errno
	}{
		{"a major below 0", -1, "", stamp, rev, api.ErrRange},
		{"the least major", math.MinInt, "", stamp, rev, api.ErrRange},
		{"a major of ten digits", 1000000000, "", stamp, rev, api.ErrRange},
		{"the greatest major", math.MaxInt, "", stamp, rev, api.ErrRange},
		{"a major of ten digits, and all else wrong", 1000000000, "x", "", "", api.ErrRange},
		{"a major below 0, and all else wrong", -1, "x", "", "", api.ErrRange},
		{"no time", 1, "", "", rev, api.ErrForm},
		{"no revision", 1, "", stamp, "", api.ErrForm},
		{"no time, a wrong base", 1, "x", "", rev, api.ErrForm},
		{"no revision, a wrong base", 1, "x", stamp, "", api.ErrForm},
		{"time and revision changed", 1, "", rev, stamp, api.ErrForm},
		{"a base that is no version", 1, "x", stamp, rev, api.ErrVersion},
		{"a base of two numbers", 1, "v1.2", stamp, rev, api.ErrVersion},
		{"a base with 0 ahead", 1, "v1.2.03", stamp, rev, api.ErrVersion},
		{"a base of a greater major", 1, "v2.0.0", stamp, rev, api.ErrVersion},
		{"a base of a lesser major", 1, "v0.0.0", stamp, rev, api.ErrVersion},
		{"a base with a pre of another major", 1, "v2.0.0-a", stamp, rev, api.ErrVersion},
		{"a base too long", 1, filled("v1.0.0-", "a", 61), stamp, rev, api.ErrVersion},
		{"the longest base", 1, filled("v1.0.0-", "a", 60), stamp, rev, api.ErrVersion},
		{"a base one byte too long for it", 1, filled("v1.0.0-", "a", 31), stamp, rev, api.ErrVersion},
		{"a patch of ten digits", 1, "v1.0.999999999", stamp, rev, api.ErrVersion},
		{"a base that is a pseudo-version", 1, "v1.0.0-" + end, stamp, rev, api.ErrVersion},
	} {
		is(t, c.what, pseudo(c.major, c.base, c.time, c.rev), told{"", c.want})
	}
}

// stampCases are times, and whether they are.
var stampCases = map[string]bool{
	"20200102030405":     true,
	"00000101000000":     true,
	"99991231235959":     true,
	"20201202030405":     true,
	"20201002030405":     true,
	"20200902030405":     true,
	"20200110030405":     true,
	"20200229030405":     true,
	"20200230030405":     true,
	"20200231030405":     true,
	"20190431030405":     true,
	"20200002030405":     false,
	"20201302030405":     false,
	"20202002030405":     false,
	"20209902030405":     false,
	"20200100030405":     false,
	"20200132030405":     false,
	"20200140030405":     false,
	"20200102000405":     true,
	"20200102190405":     true,
	"20200102230405":     true,
	"20200102240405":     false,
	"20200102300405":     false,
	"20200102030005":     true,
	"20200102035905":     true,
	"20200102036005":     false,
	"20200102039905":     false,
	"20200102030400":     true,
	"20200102030459":     true,
	"20200102030460":     false,
	"20200102030499":     false,
	"2020010203040":      false,
	"202001020304050":    false,
	"":                   false,
	"2020010203040a":     false,
	"a0200102030405":     false,
	"2020-1-2030405":     false,
	"20200102 30405":     false,
	"+0200102030405":     false,
	"2020010203040\xb2":  false,
	"202001020304\u00b2": false,
}

func TestP3_3_TimesHaveTheirBounds(t *testing.T) {
	for time, ok := range stampCases {
		v, want, split := "v1.0.0-"+time+"-"+rev, told{"", api.ErrForm}, origin{}
		if ok {
			want, split = told{v, api.OK}, origin{"", time, rev, true}
		}
		is(t, "Pseudo at "+time, pseudo(1, "", time, rev), want)
		is(t, "SplitPseudo("+v+")", splitPseudo(v), split)
	}
}

func TestP3_3_EachTwoDigitsOfATime(t *testing.T) {
	for at, bounds := range map[int][2]int{4: {1, 12}, 6: {1, 31}, 8: {0, 23}, 10: {0, 59}, 12: {0, 59}} {
		for n := range 100 {
			time := fmt.Sprintf("%s%02d%s", stamp[:at], n, stamp[at+2:])
			_, _, _, ok := mod.SplitPseudo("v1.0.0-" + time + "-" + rev)
			is(t, time, ok, bounds[0] <= n && n <= bounds[1])
		}
	}
}

func TestP3_3_Revisions(t *testing.T) {
	for _, r := range []string{"000000000000", "999999999999", "ffffffffffff", "0123456789ab", "a00000000000"} {
		is(t, r, pseudo(1, "", stamp, r), told{"v1.0.0-" + stamp + "-" + r, api.OK})
		is(t, "split "+r, splitPseudo("v1.0.0-"+stamp+"-"+r), origin{"", stamp, r, true})
	}
	wrong := []string{"", "abcdefabcde", "abcdefabcdeff", "ABCDEFABCDEF", "abcdefabcdeg", "gbcdefabcdef", "abcdef-bcdef", "abcdef.bcdef", "abcdefabcde\xe9", "abcdefabcd\u00e9"}
	for _, r := range wrong {
		is(t, fmt.Sprintf("%q", r), pseudo(1, "", stamp, r), told{"", api.ErrForm})
		is(t, fmt.Sprintf("split %q", r), splitPseudo("v1.0.0-"+stamp+"-"+r), origin{})
	}
	for c := range 256 {
		one := string([]byte{byte(c)})
		_, e := mod.Pseudo(1, "", stamp, "abcdef"+one+"00000")
		is(t, fmt.Sprintf("a revision with %q", one), e == api.OK, strings.Contains("0123456789abcdef", one))
	}
}

func TestP3_3_WhatIsNoPseudoVersion(t *testing.T) {
	for _, v := range []string{
		"", "x", "v1.0.0", "v1.2.3", "v1.0.0-a", end, "-" + end, "v1-" + end, "v1.0-" + end, "1.0.0-" + end,
		"v1.0.1-" + end, "v1.1.0-" + end, "v1.1.1-" + end, "v0.0.1-" + end,
		"v1.0.0-0." + end, "v1.2.0-0." + end, "v0.0.0-0." + end,
		"v1.0.0-a." + end, "v1.2.3-1." + end, "v1.2.3-00." + end, "v1.2.3-a0." + end, "v1.2.3--0." + end,
		"v1.2.3-0.a." + end, "v1.2.3-a.1." + end, "v1.2.3-a.-." + end, "v1.2.3-a.b0." + end, "v1.2.3-a.00." + end,
		"v1.2.3-.0." + end, "v1.2.3-a..0." + end,
		"v1.0.0-" + end + ".0", "v1.0.0-" + end + "-", "v1.0.0-" + end + "0", "v1.0.0-0" + end, "v1.0.0--" + end, "v1.0.0-a" + end,
		"v1.0.0-" + stamp, "v1.0.0-" + stamp + "-", "v1.0.0-" + rev, "v1.0.0-" + rev + "-" + stamp, "v1.0.0-" + stamp + "." + rev,
		"v1.0.0-" + stamp + "--" + rev, "v1.0.0-" + end + "-" + rev,
		"v1.0.1000000000-0." + end, "v1000000000.0.0-" + end,
		filled("v1.2.3-", "a", 31) + ".0." + end,
		"v1.0.0-" + end + "+x", "v1.0.0-" + end + "\n",
	} {
		is(t, fmt.Sprintf("SplitPseudo(%q)", v), splitPseudo(v), origin{})
	}
}

// A version is taken apart as whatever of Pseudo makes it: each text that could
// be the base is tried.
func TestP3_3_SplitPseudoTurnsPseudoRound(t *testing.T) {
	for _, v := range randomPseudos(3000) {
		want := origin{}
		for _, base := range basesFor(v) {
			for _, major := range []int{0, 1, 2, 999999999} {
				last := v[max(0, len(v)-len(end)):]
				time, rev, _ := strings.Cut(last, "-")
				if pseudo(major, base, time, rev) == (told{v, api.OK}) && len(base) >= len(want.base) {
					want = origin{base, time, rev, true}
				}
			}
		}
		is(t, fmt.Sprintf("SplitPseudo(%q)", v), splitPseudo(v), want)
	}
}

func TestP3_11_PseudoStandsBehindItsBase(t *testing.T) {
	for _, c := range pseudoCases {
		p := partsOf(c.want)
		next := fmt.Sprintf("v%d.%d.%d", p.major, p.minor, p.patch)
		is(t, c.want+" and its base", mod.Compare(c.want, c.base), 1)
		is(t, c.want+" and the next", mod.Compare(c.want, next), -1)
		is(t, c.want+" split", splitPseudo(c.want).base, c.base)
	}
	is(t, "a later one", mod.Compare("v1.2.4-0."+end, "v1.2.4-0.20200102030406-000000000000"), -1)
}
