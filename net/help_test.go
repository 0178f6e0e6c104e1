package net_test

import (
	"fmt"
	"strings"
	"testing"

	"mews/api"
	"mews/net"
)

// is fails the test unless got is want.
func is[T comparable](t *testing.T, what string, got, want T) {
	t.Helper()
	if got != want {
		t.Errorf("%s: %v, not %v", what, got, want)
	}
}

// made is a network that the test takes for granted.
func made(t *testing.T, pages []net.Page, faults ...net.Fault) *net.Net {
	t.Helper()
	n, e := net.New(pages, faults)
	if n == nil || e != api.OK {
		t.Fatalf("New: error %d", e)
	}
	return n
}

// one is a single page.
func one(url, text string) []net.Page { return []net.Page{{URL: url, Data: []byte(text)}} }

// answer is what is to be seen of an answer.
type answer struct {
	status int
	text   string
	ticks  int
}

func seen(a net.Answer) answer { return answer{a.Status, string(a.Data), a.Ticks} }

// gets requests a URL once for each answer that it is to get.
func gets(t *testing.T, n *net.Net, url string, want ...answer) {
	t.Helper()
	for i, w := range want {
		is(t, fmt.Sprintf("Get(%.20q), request %d of these", url, i+1), seen(n.Get(url)), w)
	}
}

// page is the answer of a page without a fault; gone is the one where there is none.
func page(text string) answer { return answer{200, text, 1} }

var gone = answer{404, "", 1}

// long is a URL of so many bytes.
func long(length int) string { return strings.Repeat("u", length) }

// counts is everything that a network tells of its requests.
func counts(n *net.Net) string {
	var b strings.Builder
	for _, url := range n.URLs() {
		fmt.Fprintf(&b, "%.20q %d, ", url, n.Asked(url))
	}
	fmt.Fprint(&b, n.Total())
	return b.String()
}
