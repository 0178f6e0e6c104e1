package tlog_test

import (
	"bytes"
	"fmt"
	"testing"

	"mews/api"
	"mews/ark"
	"mews/tlog"
)

func TestP7_1_LeafAndNode(t *testing.T) {
	is(t, "Leaf of none", ark.Hex(tlog.Leaf(nil)), "6e340b9cffb37a989ca544e6bb780a2c78901d3fb33738768511a30617afa01d")
	for length := range 200 {
		data := bytes.Repeat([]byte{byte(length), 0, 1}, length)[:length]
		isBytes(t, fmt.Sprint("Leaf of ", length, " bytes"), tlog.Leaf(data), modelLeaf(data))
		left, right := tlog.Leaf(data), tlog.Leaf(data[:length/2])
		isBytes(t, "Node", tlog.Node(left, right), modelNode(left, right))
		isBytes(t, "Node, the other way round", tlog.Node(right, left), modelNode(right, left))
		isBytes(t, "Node of texts of other lengths", tlog.Node(data, left), modelNode(data, left))
	}
	isBytes(t, "Node of nothing", tlog.Node(nil, nil), modelNode(nil, nil))
}

func TestP7_1_NewAndAppend(t *testing.T) {
	l := tlog.New()
	is(t, "Size of a new log", l.Size(), 0)
	b, e := l.Hash(0, 0)
	answersBytes(t, "Hash of a new log", b, e, nil, api.ErrRange)
	for i := range 100 {
		number, e := l.Append(record(i))
		is(t, "Append", number, i)
		is(t, "Append's error", e, api.OK)
		is(t, "Size", l.Size(), i+1)
	}
	is(t, "Size of another new log", tlog.New().Size(), 0)
}

// Records that are the same are records of their own.
func TestP7_1_SameRecords(t *testing.T) {
	l := tlog.New()
	for i := range 4 {
		number, e := l.Append([]byte("same"))
		is(t, "Append", number, i)
		is(t, "Append's error", e, api.OK)
	}
	leaf := modelLeaf([]byte("same"))
	pair := modelNode(leaf, leaf)
	b, e := l.Hash(2, 0)
	answersBytes(t, "Hash(2, 0)", b, e, modelNode(pair, pair), api.OK)
}

func TestP7_1_Hash(t *testing.T) {
	all := records(70)
	l := tlog.New()
	for n := range 71 {
		for level := -2; level <= 70; level++ {
			for k := -2; k <= n+1; k++ {
				what := fmt.Sprintf("Hash(%d, %d) of %d records", level, k, n)
				got, e := l.Hash(level, k)
				if level < 0 || k < 0 || level > 8 || (k+1)<<level > n {
					answersBytes(t, what, got, e, nil, api.ErrRange)
				} else if n <= 20 || n == 70 {
					answersBytes(t, what, got, e, modelTree(all, level, k), api.OK)
				}
			}
		}
		if n < 70 {
			l.Append(all[n])
		}
	}
}

func TestP7_1_HashEdges(t *testing.T) {
	for _, n := range []int{0, 1, 2, 5, 16} {
		l := made(t, n)
		for _, level := range edges() {
			for _, k := range edges() {
				got, e := l.Hash(level, k)
				what := fmt.Sprintf("Hash(%d, %d) of %d records", level, k, n)
				if modelHasTree(level, k, n) {
					answersBytes(t, what, got, e, modelTree(records(n), level, k), api.OK)
				} else {
					answersBytes(t, what, got, e, nil, api.ErrRange)
				}
			}
		}
	}
}

// modelHasTree tells whether a whole tree is within n records.
func modelHasTree(level, k, n int) bool {
	return 0 <= level && level <= 20 && 0 <= k && k <= n && (k+1)<<level <= n
}

func TestP7_1_Many(t *testing.T) {
	l := full()
	is(t, "Size", l.Size(), api.MaxRecords)
	before, _ := l.Root(api.MaxRecords)
	for range 3 {
		number, e := l.Append([]byte("one more"))
		is(t, "Append of one too many", number, 0)
		is(t, "Append's error", e, api.ErrMany)
		is(t, "Size behind it", l.Size(), api.MaxRecords)
	}
	after, e := l.Root(api.MaxRecords)
	answersBytes(t, "Root behind it", after, e, before, api.OK)
	for _, level := range edges() {
		for _, k := range edges() {
			got, e := l.Hash(level, k)
			want := api.ErrRange
			if modelHasTree(level, k, api.MaxRecords) {
				want = api.OK
			}
			is(t, fmt.Sprintf("Hash(%d, %d) of all records, its error", level, k), e, want)
			is(t, fmt.Sprintf("Hash(%d, %d) of all records, its bytes", level, k), len(got) == 32, want == api.OK)
		}
	}
}

// The last record that fits is number MaxRecords - 1, and ends all trees.
func TestP7_1_LastOne(t *testing.T) {
	l := full()
	last, e := l.Hash(0, api.MaxRecords-1)
	answersBytes(t, "the last record's hash", last, e, modelLeaf([]byte{0xff, 0xff, 0x0f}), api.OK)
	for level := range 20 {
		k := api.MaxRecords>>level - 1
		left, _ := l.Hash(level, k-1)
		right, _ := l.Hash(level, k)
		above, e := l.Hash(level+1, k/2)
		answersBytes(t, fmt.Sprint("the last tree of level ", level+1), above, e, modelNode(left, right), api.OK)
	}
}
