package proxy_test

import (
	"fmt"
	"math"
	"strings"
	"testing"

	"mews/api"
	"mews/proxy"
)

// isNew fails the test unless New answers this error, and a client just beside OK.
func isNew(t *testing.T, base string, o proxy.Opts, want api.Errno) {
	t.Helper()
	n := web(t)
	c, e := proxy.New(n, base, o)
	what := fmt.Sprintf("New(%d bytes, %v)", len(base), o)
	isError(t, what, e, want)
	is(t, what+", whether there is a client", c != nil, want == api.OK)
	is(t, what+", Total", n.Total(), 0)
}

// wrongOpts is options that are refused.
func wrongOpts() []proxy.Opts {
	var l []proxy.Opts
	for _, wrong := range []int{math.MinInt, -1, 0, api.MaxTries + 1, math.MaxInt} {
		l = append(l, proxy.Opts{Tries: wrong, Patience: 1, Budget: 1})
	}
	for _, wrong := range []int{math.MinInt, -1, 0} {
		l = append(l, proxy.Opts{Tries: 1, Patience: wrong, Budget: 1})
	}
	for _, wrong := range []int{math.MinInt, -1, 0, api.MaxBudget + 1, math.MaxInt} {
		l = append(l, proxy.Opts{Tries: 1, Patience: 1, Budget: wrong})
	}
	return append(l, proxy.Opts{})
}

func TestP11_1_Options(t *testing.T) {
	for _, tries := range []int{1, 2, api.MaxTries - 1, api.MaxTries} {
		for _, patience := range []int{1, 2, math.MaxInt} {
			for _, budget := range []int{1, 2, api.MaxBudget - 1, api.MaxBudget} {
				isNew(t, "", proxy.Opts{Tries: tries, Patience: patience, Budget: budget}, api.OK)
			}
		}
	}
	for _, o := range wrongOpts() {
		isNew(t, "", o, api.ErrRange)
	}
}

func TestP11_1_Base(t *testing.T) {
	for _, length := range []int{0, 1, 39, 40} {
		isNew(t, strings.Repeat("b", length), usual, api.OK)
		isNew(t, strings.Repeat("\xff", length), usual, api.OK)
	}
	for _, length := range []int{41, 42, 1000, 1 << 20} {
		isNew(t, strings.Repeat("b", length), usual, api.ErrLong)
	}
}

func TestP11_1_Order(t *testing.T) {
	for _, o := range wrongOpts() {
		isNew(t, strings.Repeat("b", 40), o, api.ErrRange)
		isNew(t, strings.Repeat("b", 41), o, api.ErrRange)
	}
}

// What is said to the network later on, a client of it sees.
func TestP11_1_KeepsTheNetwork(t *testing.T) {
	n := web(t)
	c := client(t, n, "/base", usual)
	fetchesNot(t, "ahead", c, "/p", api.ErrNone)
	lay(t, n, "/base/p", "text", "/p", "other")
	fetches(t, "behind", c, "/p", "text")
	befall(t, n, "/base/p", gone())
	fetchesNot(t, "gone", c, "/p", api.ErrNone)
}
