package net_test

import (
	"fmt"
	"sync"
	"testing"

	"mews/api"
	"mews/net"
)

// together runs work that many times at once.
func together(count int, work func(worker int)) {
	var group sync.WaitGroup
	for worker := range count {
		group.Go(func() { work(worker) })
	}
	group.Wait()
}

// Each attempt has ticks of its own; so a number given twice, or to nobody, is seen.
func TestP2_4_EachRequestHasItsNumber(t *testing.T) {
	const workers, each = 16, 200
	var faults []net.Fault
	for attempt := 1; attempt <= workers*each; attempt++ {
		faults = append(faults, net.Fault{URL: "/a", Attempt: attempt, Kind: net.FLate, N: 1000 + attempt})
	}
	n := made(t, one("/a", "abc"), faults...)
	ticks := make([][]int, workers)
	together(workers, func(worker int) {
		for range each {
			ticks[worker] = append(ticks[worker], n.Get("/a").Ticks)
		}
	})
	met := map[int]int{}
	for _, list := range ticks {
		for i, k := range list {
			met[k]++
			if i > 0 && k <= list[i-1] {
				t.Fatalf("a later request has attempt %d behind %d", k, list[i-1])
			}
		}
	}
	is(t, "attempts", len(met), workers*each)
	for attempt := 1; attempt <= workers*each; attempt++ {
		is(t, "requests of an attempt", met[1000+attempt], 1)
	}
	is(t, "counts", counts(n), fmt.Sprintf("%q %d, %d", "/a", workers*each, workers*each))
}

func TestP2_4_AllCallsAtOnce(t *testing.T) {
	const workers, each = 16, 100
	n := made(t, one("/shared", "abc"))
	wrong := make([]string, workers)
	together(workers, func(worker int) {
		own := fmt.Sprintf("/%02d", worker)
		for k := 1; k <= each; k++ {
			text := fmt.Sprint(worker, k)
			if n.Set(own, []byte(text)) != api.OK || n.Add(net.Fault{URL: own, Attempt: 2 * k, Kind: net.FBusy}) != api.OK {
				wrong[worker] = "Set or Add"
			}
			if seen(n.Get(own)) != page(text) || n.Get(own).Status != 503 || n.Asked(own) != 2*k {
				wrong[worker] = "Get or Asked"
			}
			if seen(n.Get("/shared")) != page("abc") || n.Asked("/shared") < k || n.Total() < 3*k || len(n.URLs()) < 2 {
				wrong[worker] = "what is shared"
			}
		}
	})
	for worker, what := range wrong {
		is(t, fmt.Sprint("worker ", worker), what, "")
	}
	is(t, "Asked", n.Asked("/shared"), workers*each)
	is(t, "Total", n.Total(), 3*workers*each)
	is(t, "URLs", len(n.URLs()), workers+1)
}

// Of several that add one fault at once just one is told that it was not there.
func TestP2_4_OneFaultAtOnce(t *testing.T) {
	const workers, each = 16, 50
	n := made(t, nil)
	added := make([]int, workers)
	together(workers, func(worker int) {
		for k := 1; k <= each; k++ {
			switch n.Add(net.Fault{URL: "/a", Attempt: k, Kind: net.FForge, Data: []byte{byte(worker)}}) {
			case api.OK:
				added[worker]++
			case api.ErrThere:
			default:
				added[worker] += each
			}
		}
	})
	sum := 0
	for _, count := range added {
		sum += count
	}
	is(t, "faults", sum, each)
}
