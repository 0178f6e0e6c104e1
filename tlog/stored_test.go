package tlog_test

import (
	"fmt"
	"testing"

	"mews/api"
	"mews/tlog"
)

func TestP7_4_Examples(t *testing.T) {
	for _, x := range []struct{ level, k, want int }{{0, 0, 0}, {0, 1, 1}, {1, 0, 2}, {0, 2, 3}, {2, 0, 6}} {
		index, e := tlog.Index(x.level, x.k)
		is(t, fmt.Sprint("Index ", x), index, x.want)
		is(t, fmt.Sprint("Index ", x, ", its error"), e, api.OK)
	}
	count, e := tlog.Count(4)
	is(t, "Count(4)", count, 7)
	is(t, "Count's error", e, api.OK)
	level, k, e := tlog.Split(5)
	is(t, "Split(5)", tree{level, k}, tree{1, 1})
	is(t, "Split's error", e, api.OK)
}

// All that is stored of all records, one by one.
func TestP7_4_AllInOrder(t *testing.T) {
	at := 0
	for i := range api.MaxRecords {
		if count, e := tlog.Count(i); count != at || e != api.OK {
			t.Fatalf("Count(%d): %d, error %d, not %d", i, count, e, at)
		}
		for level, k := 0, i; ; level, k = level+1, k/2 {
			index, e := tlog.Index(level, k)
			gotLevel, gotK, f := tlog.Split(at)
			if index != at || e != api.OK || gotLevel != level || gotK != k || f != api.OK {
				t.Fatalf("Index(%d, %d): %d, error %d; Split(%d): %d %d, error %d", level, k, index, e, at, gotLevel, gotK, f)
			}
			at++
			if k%2 == 0 {
				break
			}
		}
	}
	count, e := tlog.Count(api.MaxRecords)
	is(t, "Count of all", count, at)
	is(t, "Count's error", e, api.OK)
	is(t, "how many there are", at, 2*api.MaxRecords-1)
}

func TestP7_4_Edges(t *testing.T) {
	for _, level := range edges() {
		for _, k := range edges() {
			index, e := tlog.Index(level, k)
			if !modelHasTree(level, k, api.MaxRecords) {
				is(t, fmt.Sprint("Index ", level, " ", k), index, 0)
				is(t, fmt.Sprint("Index ", level, " ", k, ", its error"), e, api.ErrRange)
				continue
			}
			is(t, fmt.Sprint("Index ", level, " ", k, ", its error"), e, api.OK)
			gotLevel, gotK, _ := tlog.Split(index)
			is(t, "Split of it", tree{gotLevel, gotK}, tree{level, k})
		}
	}
	for level := range 21 {
		index, e := tlog.Index(level, api.MaxRecords>>level-1)
		is(t, "Index of the last tree", index, 2*api.MaxRecords-2-20+level)
		is(t, "Index's error", e, api.OK)
		index, e = tlog.Index(level, api.MaxRecords>>level)
		is(t, "Index of one tree too far", index, 0)
		is(t, "Index's error", e, api.ErrRange)
	}
}

func TestP7_4_SplitAndCountEdges(t *testing.T) {
	for _, n := range edges() {
		level, k, e := tlog.Split(n)
		if n < 0 || n > 2*api.MaxRecords-2 {
			is(t, fmt.Sprint("Split ", n), tree{level, k}, tree{})
			is(t, fmt.Sprint("Split ", n, ", its error"), e, api.ErrRange)
		} else {
			is(t, fmt.Sprint("Split ", n, ", its error"), e, api.OK)
		}
		count, e := tlog.Count(n)
		if n < 0 || n > api.MaxRecords {
			is(t, fmt.Sprint("Count ", n), count, 0)
			is(t, fmt.Sprint("Count ", n, ", its error"), e, api.ErrRange)
		} else {
			is(t, fmt.Sprint("Count ", n, ", its error"), e, api.OK)
		}
	}
}
