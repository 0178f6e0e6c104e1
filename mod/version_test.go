package mod_test

import (
	"fmt"
	"slices"
	"strings"
	"testing"

	"mews/api"
	"mews/mod"
)

func TestExamplesOfVersions(t *testing.T) {
	for _, v := range []string{"v1.2.3", "v1.2.3-rc.1"} {
		is(t, v, mod.ValidVersion(v), true)
	}
	for _, v := range []string{"v1.2", "v01.2.3", "v1.2.3-01", "v1.2.3-", "v1.2.3+x"} {
		is(t, v, mod.ValidVersion(v), false)
	}
	is(t, "Parts", partsOf("v1.2.3-a.0"), parts{1, 2, 3, "a.0", true})
	is(t, "minor", mod.Compare("v1.2.3", "v1.10.0"), -1)
	is(t, "without a pre", mod.Compare("v1.0.0", "v1.0.0-a"), 1)
	is(t, "numbers of a pre", mod.Compare("v1.0.0-2", "v1.0.0-10"), -1)
	is(t, "more identifiers", mod.Compare("v1.0.0-a", "v1.0.0-a.b"), -1)
	is(t, "a number and `-`", mod.Compare("v1.0.0-9", "v1.0.0--"), -1)
	is(t, "no version", mod.Compare("x", "v0.0.0"), -1)
}

var versionCases = map[string]parts{
	"v0.0.0":                           {0, 0, 0, "", true},
	"v1.2.3":                           {1, 2, 3, "", true},
	"v10.20.30":                        {10, 20, 30, "", true},
	"v999999999.999999999.999999999":   {999999999, 999999999, 999999999, "", true},
	"v123456789.0.987654321":           {123456789, 0, 987654321, "", true},
	"v0.0.0-0":                         {0, 0, 0, "0", true},
	"v1.2.3-0.0":                       {1, 2, 3, "0.0", true},
	"v1.2.3-rc.1":                      {1, 2, 3, "rc.1", true},
	"v1.2.3-a-b.-.--":                  {1, 2, 3, "a-b.-.--", true},
	"v1.2.3--":                         {1, 2, 3, "-", true},
	"v1.2.3--1":                        {1, 2, 3, "-1", true},
	"v1.2.3-0a":                        {1, 2, 3, "0a", true},
	"v1.2.3-00a":                       {1, 2, 3, "00a", true},
	"v1.2.3-00-":                       {1, 2, 3, "00-", true},
	"v1.2.3-AZaz09":                    {1, 2, 3, "AZaz09", true},
	"v1.2.3-1234567890":                {1, 2, 3, "1234567890", true},
	"v1.2.3-99999999999999999999":      {1, 2, 3, "99999999999999999999", true},
	"v1.2.3-v1.2.3":                    {1, 2, 3, "v1.2.3", true},
	filled("v1.2.3-", "a", 60):         {1, 2, 3, strings.Repeat("a", 53), true},
	filled("v1.2.3-", "9", 60):         {1, 2, 3, strings.Repeat("9", 53), true},
	filled("v1.2.3-a", ".b", 8+52/2):   {1, 2, 3, "a" + strings.Repeat(".b", 26), true},
	"v1.2.3-" + end:                    {1, 2, 3, end, true},
	filled("v1.2.3-", "a", 61):         {},
	filled("v1.2.3-", "9", 61):         {},
	filled("v1.2.3-", "a", 1<<20):      {},
	filled("v", "1", 60):               {},
	"v1.2.3-" + strings.Repeat("é", 2): {},
	"":                                 {},
	"v":                                {},
	"1.2.3":                            {},
	"V1.2.3":                           {},
	"vv1.2.3":                          {},
	" v1.2.3":                          {},
	"v1.2.3 ":                          {},
	"v1.2.3\n":                         {},
	"v1.2.3\x00":                       {},
	"v1":                               {},
	"v1.2":                             {},
	"v1.2.3.4":                         {},
	"v1.2.":                            {},
	"v1..3":                            {},
	"v.2.3":                            {},
	"v1.2.3.":                          {},
	"v..":                              {},
	"v01.2.3":                          {},
	"v1.02.3":                          {},
	"v1.2.03":                          {},
	"v00.0.0":                          {},
	"v0.00.0":                          {},
	"v0.0.00":                          {},
	"v0.0.000000000":                   {},
	"v1234567890.0.0":                  {},
	"v0.1234567890.0":                  {},
	"v0.0.1234567890":                  {},
	"v1000000000.0.0":                  {},
	"v0.0.0123456789":                  {},
	"v18446744073709551617.0.0":        {},
	"v+1.2.3":                          {},
	"v1.+2.3":                          {},
	"v-1.2.3":                          {},
	"v1.-2.3":                          {},
	"v1.2.-3":                          {},
	"v1_0.2.3":                         {},
	"v0x1.2.3":                         {},
	"v1.2.a":                           {},
	"v1.2-a":                           {},
	"v1-a.2.3":                         {},
	"v1.2.3a":                          {},
	"v1.2.3-":                          {},
	"v1.2.3-.":                         {},
	"v1.2.3-a.":                        {},
	"v1.2.3-.a":                        {},
	"v1.2.3-a..b":                      {},
	"v1.2.3-01":                        {},
	"v1.2.3-00":                        {},
	"v1.2.3-a.01":                      {},
	"v1.2.3-a.01.b":                    {},
	"v1.2.3-01.a":                      {},
	"v1.2.3-012345678901234567890":     {},
	"v1.2.3-a_b":                       {},
	"v1.2.3-a b":                       {},
	"v1.2.3-a/b":                       {},
	"v1.2.3+x":                         {},
	"v1.2.3-a+x":                       {},
	"v1.2.3-\xff":                      {},
	"\xffv1.2.3":                       {},
	"v\u0661.2.3":                      {},
}

func TestP3_1_PartsOfAVersion(t *testing.T) {
	for v, want := range versionCases {
		is(t, fmt.Sprintf("ValidVersion(%.70q)", v), mod.ValidVersion(v), want.ok)
		is(t, fmt.Sprintf("Parts(%.70q)", v), partsOf(v), want)
	}
}

func TestP3_1_MaxVersionIsTheLimit(t *testing.T) {
	is(t, "MaxVersion", api.MaxVersion, 60)
	for length := 8; length <= 70; length++ {
		v := filled("v1.2.3-", "x", length)
		is(t, v, mod.ValidVersion(v), length <= 60)
	}
}

func TestP3_1_EveryByteOfAnIdentifier(t *testing.T) {
	const may = "0123456789abcdefghijklmnopqrstuvwxyzABCDEFGHIJKLMNOPQRSTUVWXYZ-"
	for c := range 256 {
		one := string([]byte{byte(c)})
		is(t, fmt.Sprintf("an identifier of %q", one), mod.ValidVersion("v1.2.3-"+one), strings.Contains(may, one))
		is(t, fmt.Sprintf("an identifier with %q", one), mod.ValidVersion("v1.2.3-a"+one+"b"), strings.Contains(may+".", one))
		is(t, fmt.Sprintf("a number with %q", one), mod.ValidVersion("v1.2"+one+"2.3"), strings.Contains("0123456789", one))
		is(t, fmt.Sprintf("%q in the place of the v", one), mod.ValidVersion(one+"1.2.3"), one == "v")
	}
}

// rising is texts, each less than those behind it.
var rising = []string{
	"", "\x00", "0.0.0", "V1.0.0", "v", "v01.0.0", "v1", "v1.0.0-", "v1.0.0-01", "v1.0.0.0", "v9.9.1234567890", "x", "\xff",
	"v0.0.0-0", "v0.0.0-a", "v0.0.0", "v0.0.1-a", "v0.0.1", "v0.0.2", "v0.0.9", "v0.0.10", "v0.0.999999999",
	"v0.1.0", "v0.9.0", "v0.10.0", "v0.999999999.0",
	"v1.0.0-0", "v1.0.0-0.0", "v1.0.0-0.0.0", "v1.0.0-0.1", "v1.0.0-0.a", "v1.0.0-1", "v1.0.0-2", "v1.0.0-2.9", "v1.0.0-9",
	"v1.0.0-10", "v1.0.0-10.1", "v1.0.0-10.10", "v1.0.0-10.a",
	"v1.0.0-999999999", "v1.0.0-1000000000", "v1.0.0-9223372036854775807", "v1.0.0-9223372036854775808",
	"v1.0.0-18446744073709551615", "v1.0.0-18446744073709551616", "v1.0.0-99999999999999999998", "v1.0.0-99999999999999999999",
	"v1.0.0-100000000000000000000",
	"v1.0.0--", "v1.0.0--.0", "v1.0.0--.a", "v1.0.0--1", "v1.0.0-0-", "v1.0.0-00a", "v1.0.0-0a", "v1.0.0-10a", "v1.0.0-9a",
	"v1.0.0-A", "v1.0.0-RC", "v1.0.0-a", "v1.0.0-a.0", "v1.0.0-a.1", "v1.0.0-a.1.0", "v1.0.0-a.2", "v1.0.0-a.10", "v1.0.0-a.b", "v1.0.0-a.b.c",
	"v1.0.0-a-", "v1.0.0-a0", "v1.0.0-aa", "v1.0.0-b", "v1.0.0-rc.9", "v1.0.0-rc.10", "v1.0.0-rc10", "v1.0.0-rc9",
	"v1.0.0", "v1.0.1", "v1.2.3", "v1.10.0", "v2.0.0-0", "v2.0.0", "v10.0.0", "v999999999.0.0", "v999999999.999999999.999999999",
}

func TestP3_2_CompareGoesByTheParts(t *testing.T) {
	for i, a := range rising {
		for k, b := range rising {
			want := 0
			if i < k {
				want = -1
			} else if i > k {
				want = 1
			}
			is(t, fmt.Sprintf("Compare(%q, %q)", a, b), mod.Compare(a, b), want)
			is(t, fmt.Sprintf("Max(%q, %q)", a, b), mod.Max(a, b), rising[max(i, k)])
		}
	}
}

func TestP3_2_LongTextsAreNoVersions(t *testing.T) {
	long, longer := filled("v9.9.9-", "a", 61), filled("v9.9.9-", "a", 62)
	is(t, "long and a version", mod.Compare(long, "v0.0.0-0"), -1)
	is(t, "a version and long", mod.Compare("v0.0.0-0", long), 1)
	is(t, "long and longer", mod.Compare(long, longer), -1)
	is(t, "long and itself", mod.Compare(long, strings.Clone(long)), 0)
	is(t, "not by number", mod.Compare(filled("v1.0.0-", "9", 61), filled("v1.0.0-10", "0", 62)), 1)
	is(t, "the longest by number", mod.Compare(filled("v1.0.0-", "9", 59), filled("v1.0.0-1", "0", 60)), -1)
	is(t, "Max of long ones", mod.Max(long, longer), longer)
}

func TestP3_2_SortRises(t *testing.T) {
	turned := slices.Clone(rising)
	slices.Reverse(turned)
	given := slices.Clone(turned)
	is(t, "Sort", fmt.Sprintf("%q", mod.Sort(given)), fmt.Sprintf("%q", rising))
	is(t, "what was given", slices.Equal(given, turned), true)
	is(t, "Sort of none", len(mod.Sort(nil))+len(mod.Sort([]string{})), 0)
	is(t, "Sort of one", fmt.Sprint(mod.Sort([]string{"x"})), "[x]")
	same := []string{"v1.0.0", "x", "v1.0.0", "v0.9.0", "x", "v1.0.0"}
	is(t, "Sort of the same ones", fmt.Sprint(mod.Sort(same)), "[x x v0.9.0 v1.0.0 v1.0.0 v1.0.0]")
}

func TestP3_10_CompareIsAnOrder(t *testing.T) {
	texts := slices.Concat(rising, randomVersions(40))
	for _, a := range texts {
		for _, b := range texts {
			order := mod.Compare(a, b)
			is(t, fmt.Sprintf("Compare(%q, %q) and turned round", a, b), order, -mod.Compare(b, a))
			is(t, fmt.Sprintf("Compare(%q, %q) is 0", a, b), order == 0, a == b)
			for _, c := range texts {
				if order < 0 && mod.Compare(b, c) < 0 && mod.Compare(a, c) >= 0 {
					t.Errorf("%q is less than %q, that less than %q", a, b, c)
				}
			}
		}
	}
}
