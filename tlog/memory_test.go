package tlog_test

import (
	"bytes"
	"fmt"
	"slices"
	"testing"

	"mews/api"
	"mews/tlog"
)

// The marks that lie behind lists, and that are written into answers.
const (
	roomByte   = 0xa5
	spoiltByte = 0x5a
)

// roomy is the list with spare room behind it, filled with a mark.
func roomy[T any](list []T, mark T) []T {
	whole := slices.Clone(list)
	for range 100 {
		whole = append(whole, mark)
	}
	return whole[:len(list)]
}

// whole is the list with what lies behind it.
func whole[T any](list []T) []T { return list[:cap(list)] }

// spoil writes into all the memory of a list.
func spoil[T any](list []T, mark T) {
	for i := range whole(list) {
		whole(list)[i] = mark
	}
}

// roomyHashes is hashes with room behind them, and behind each of them.
func roomyHashes(hashes [][]byte) [][]byte {
	hashes = roomy(hashes, []byte("room"))
	for i := range hashes {
		hashes[i] = roomy(hashes[i], roomByte)
	}
	return hashes
}

// copied is hashes in memory of its own, with what lies behind the list and
// behind each of them.
func copied(hashes [][]byte) [][]byte {
	all := slices.Clone(whole(hashes))
	for i := range all {
		all[i] = bytes.Clone(whole(all[i]))
	}
	return all
}

// spoilHashes writes into all the memory of hashes.
func spoilHashes(hashes [][]byte) {
	for i := range whole(hashes) {
		spoil(whole(hashes)[i], spoiltByte)
	}
	spoil(hashes, []byte("spoilt"))
}

func TestP7_7_RecordsHandedIn(t *testing.T) {
	l := tlog.New()
	all := records(33)
	for i, given := range all {
		data := roomy(given, roomByte)
		before := bytes.Clone(whole(data))
		l.Append(data)
		isBytes(t, "Leaf, whatever lies behind", tlog.Leaf(data), modelLeaf(given))
		isBytes(t, "the record that was handed in", whole(data), before)
		spoil(data, spoiltByte)
		got, e := l.Root(i + 1)
		answersBytes(t, "Root, the record spoilt", got, e, modelHash(all[:i+1]), api.OK)
	}
}

// The two hashes of a node may lie in one memory, one behind the other.
func TestP7_7_NodeOfShared(t *testing.T) {
	both := roomy(noise(2), roomByte)
	before := bytes.Clone(whole(both))
	want := modelNode(before[:32], before[32:64])
	isBytes(t, "Node of both", tlog.Node(both[:32], both[32:]), want)
	isBytes(t, "Node of one and the same", tlog.Node(both[:32], both[:32]), modelNode(before[:32], before[:32]))
	isBytes(t, "what was handed in", whole(both), before)
	answer := tlog.Node(both[:32], both[32:])
	spoil(both, spoiltByte)
	isBytes(t, "Node's answer, the hashes spoilt", answer, want)
}

// calls is all that answers bytes, by a log of 37 records.
func calls(l *tlog.Log) map[string]func() []byte {
	list := map[string]func() []byte{
		"Leaf":         func() []byte { return tlog.Leaf([]byte("abc")) },
		"Leaf of none": func() []byte { return tlog.Leaf(nil) },
		"Node":         func() []byte { return tlog.Node(make([]byte, 32), make([]byte, 32)) },
	}
	for n := range 38 {
		list[fmt.Sprint("the log's Root ", n)] = func() []byte { b, _ := l.Root(n); return b }
		list[fmt.Sprint("Root ", n)] = func() []byte { b, _ := tlog.Root(n, l.Hash); return b }
	}
	for level := range 6 {
		for k := range 37 >> level {
			list[fmt.Sprint("Hash ", level, " ", k)] = func() []byte { b, _ := l.Hash(level, k); return b }
		}
	}
	for _, tile := range modelTiles(3, 37) {
		list[fmt.Sprint("Bytes ", tile)] = func() []byte { b, _ := l.Bytes(tile); return b }
		list[fmt.Sprint("InTile ", tile)] = func() []byte {
			data, _ := l.Bytes(tile)
			b, _ := tlog.InTile(tile, data, 3*tile.L, 8*tile.N)
			return b
		}
	}
	return list
}

func TestP7_7_BytesHandedOut(t *testing.T) {
	l := made(t, 37)
	for name, call := range calls(l) {
		first := call()
		want := bytes.Clone(first)
		second := call()
		wantWhole := bytes.Clone(whole(second))
		spoil(first, spoiltByte)
		_ = append(first, spoiltByte, spoiltByte)
		isBytes(t, name+", another answer", whole(second), wantWhole)
		isBytes(t, name+", asked again", call(), want)
	}
	for n := range 38 {
		got, e := l.Root(n)
		answersBytes(t, "Root of a log whose answers were spoilt", got, e, modelHash(records(n)), api.OK)
	}
}

func TestP7_7_ProofsHandedOut(t *testing.T) {
	const n = 21
	l := made(t, n)
	list := map[string]func() [][]byte{}
	for i := range n {
		list[fmt.Sprint("the log's Prove ", i)] = func() [][]byte { p, _ := l.Prove(i, n); return p }
		list[fmt.Sprint("Prove ", i)] = func() [][]byte { p, _ := tlog.Prove(i, n, l.Hash); return p }
		list[fmt.Sprint("the log's ProveTree ", i)] = func() [][]byte { p, _ := l.ProveTree(i, n); return p }
		list[fmt.Sprint("ProveTree ", i)] = func() [][]byte { p, _ := tlog.ProveTree(i, n, l.Hash); return p }
	}
	for name, call := range list {
		handedOut(t, name, call)
	}
	for i := range n {
		p, e := l.Prove(i, n)
		answersHashes(t, "Prove of a log whose answers were spoilt", p, e, modelPath(i, records(n)), api.OK)
	}
}

// handedOut fails the test unless a proof's hashes are each new memory.
func handedOut(t *testing.T, name string, call func() [][]byte) {
	t.Helper()
	first, second := call(), call()
	want, wantWhole := copied(second)[:len(second)], copied(second)
	for k := range first {
		others := slices.Delete(copied(first)[:len(first)], k, k+1)
		spoil(first[k], spoiltByte)
		_ = append(first[k], spoiltByte, spoiltByte)
		areHashes(t, name+", the others of the same answer", slices.Delete(copied(first)[:len(first)], k, k+1), others)
	}
	spoilHashes(first)
	areHashes(t, name+", another answer", copied(second), wantWhole)
	again := call()
	for k := range again {
		isBytes(t, name+", asked again", again[k], want[k][:32])
	}
	is(t, name+", asked again, how many", len(again), len(want))
}

// buffer is a read that answers in one memory at all its calls.
func buffer() tlog.Read {
	memory := make([]byte, 64)
	return func(level, k int) ([]byte, api.Errno) {
		spoil(memory, roomByte)
		copy(memory, drawnHash(level, k))
		return memory[:32], api.OK
	}
}

// What a read answers is its own: it may be other bytes later on.
func TestP7_7_ReadsMemory(t *testing.T) {
	for n := range 40 {
		read := buffer()
		plain := (&asker{fails: -1}).read
		got, _ := tlog.Root(n, read)
		want, _ := tlog.Root(n, plain)
		if n > 0 {
			read(0, 0)
		}
		isBytes(t, "Root by one buffer", got, want)
		for i := range n {
			path, _ := tlog.Prove(i, n, read)
			wantPath, _ := tlog.Prove(i, n, plain)
			growth, _ := tlog.ProveTree(i, n, read)
			wantGrowth, _ := tlog.ProveTree(i, n, plain)
			read(0, 0)
			areHashes(t, "Prove by one buffer", path, wantPath)
			areHashes(t, "ProveTree by one buffer", growth, wantGrowth)
			handedOut(t, "Prove by one buffer", func() [][]byte { p, _ := tlog.Prove(i, n, read); return p })
			handedOut(t, "ProveTree by one buffer", func() [][]byte { p, _ := tlog.ProveTree(i, n, read); return p })
		}
	}
}

// What a read answers isn't changed, nor what lies behind it, even when the
// call's answer is spoilt.
func TestP7_7_ReadsMemoryStays(t *testing.T) {
	known := map[tree][]byte{}
	read := func(level, k int) ([]byte, api.Errno) {
		if known[tree{level, k}] == nil {
			known[tree{level, k}] = roomy(drawnHash(level, k), roomByte)
		}
		return known[tree{level, k}], api.OK
	}
	for n := range 40 {
		root, _ := tlog.Root(n, read)
		spoil(root, spoiltByte)
		for i := range n {
			path, _ := tlog.Prove(i, n, read)
			spoilHashes(path)
			growth, _ := tlog.ProveTree(i, n, read)
			spoilHashes(growth)
		}
	}
	for x, hash := range known {
		isBytes(t, fmt.Sprint("what read answered of ", x), whole(hash), whole(roomy(drawnHash(x.level, x.k), roomByte)))
	}
}

func TestP7_7_ProofsHandedIn(t *testing.T) {
	all := records(20)
	for n := 1; n <= 20; n++ {
		for i := range n {
			path, growth := roomyHashes(modelPath(i, all[:n])), roomyHashes(modelGrowth(i, all[:n]))
			leaf, old, root := roomy(modelLeaf(all[i]), roomByte), roomy(modelHash(all[:i]), roomByte), roomy(modelHash(all[:n]), roomByte)
			pathBefore, growthBefore := copied(path), copied(growth)
			hashesBefore := copied([][]byte{leaf, old, root})
			is(t, "CheckRecord, whatever lies behind", tlog.CheckRecord(path, i, n, leaf, root), api.OK)
			is(t, "CheckTree, whatever lies behind", tlog.CheckTree(growth, i, n, old, root), api.OK)
			is(t, "a wrong CheckRecord", tlog.CheckRecord(path, i, n, old, leaf[:31]), api.ErrProof)
			if i > 0 {
				is(t, "a wrong CheckTree", tlog.CheckTree(growth, i, n, root, old), api.ErrProof)
			}
			areHashes(t, "the path that was handed in", copied(path), pathBefore)
			areHashes(t, "the proof that was handed in", copied(growth), growthBefore)
			areHashes(t, "the hashes that were handed in", copied([][]byte{leaf, old, root}), hashesBefore)
		}
	}
}

// What lies behind a proof's end doesn't make it longer.
func TestP7_7_RoomIsNoProof(t *testing.T) {
	all := records(20)
	for i := range 20 {
		path, growth := modelPath(i, all), modelGrowth(i, all)
		is(t, "CheckRecord with the last hash behind the end", tlog.CheckRecord(path[:len(path)-1], i, 20, modelLeaf(all[i]), modelHash(all)), api.ErrProof)
		if i > 0 {
			is(t, "CheckTree with the last hash behind the end", tlog.CheckTree(growth[:len(growth)-1], i, 20, modelHash(all[:i]), modelHash(all)), api.ErrProof)
		}
	}
}

func TestP7_7_TilesHandedOut(t *testing.T) {
	for h := 1; h <= 8; h++ {
		for _, n := range []int{0, 1, 2, 5, 37, 300} {
			first, _ := tlog.Tiles(h, n)
			second, _ := tlog.Tiles(h, n)
			want := slices.Clone(whole(second))
			spoil(first, tlog.Tile{H: -1, L: -1, N: -1, W: -1})
			areList(t, "Tiles, another answer", whole(second), want)
			again, _ := tlog.Tiles(h, n)
			areList(t, "Tiles, asked again", again, modelTiles(h, n))
		}
	}
}

func TestP7_7_TileDataHandedIn(t *testing.T) {
	for _, w := range []int{1, 2, 5, 8} {
		tile := tlog.Tile{H: 3, W: w}
		data := roomy(noise(w), roomByte)
		before := bytes.Clone(whole(data))
		for level := range 3 {
			for k := range w >> level {
				got, e := tlog.InTile(tile, data, level, k)
				want, _ := modelInTile(tile, noise(w), level, k)
				answersBytes(t, "InTile, whatever lies behind", got, e, want, api.OK)
				spoil(got, spoiltByte)
				isBytes(t, "the data that was handed in, the answer spoilt", whole(data), before)
			}
			got, e := tlog.InTile(tile, data, level, w>>level)
			answersBytes(t, "InTile of what lies behind the end", got, e, nil, api.ErrRange)
		}
		got, _ := tlog.InTile(tile, data, 0, 0)
		spoil(data, spoiltByte)
		isBytes(t, "InTile's answer, the data spoilt", got, before[:32])
	}
}
