package tlog_test

import (
	"fmt"
	"math/rand"
	"testing"

	"mews/api"
	"mews/tlog"
)

// Each byte of each hash turned, and the hashes of other records.
func TestP7_8_RecordProved(t *testing.T) {
	l := made(t, 20)
	for n := 1; n <= 20; n++ {
		root, _ := l.Root(n)
		for i := range n {
			proof, _ := l.Prove(i, n)
			leaf := tlog.Leaf(record(i))
			what := fmt.Sprintf("CheckRecord of %d in %d", i, n)
			is(t, what, tlog.CheckRecord(proof, i, n, leaf, root), api.OK)
			for place := range 32 {
				is(t, what+", the leaf's hash turned", tlog.CheckRecord(proof, i, n, turned(leaf, place), root), api.ErrProof)
				is(t, what+", the root turned", tlog.CheckRecord(proof, i, n, leaf, turned(root, place)), api.ErrProof)
				for k := range proof {
					is(t, what+", a hash turned", tlog.CheckRecord(with(proof, k, turned(proof[k], place)), i, n, leaf, root), api.ErrProof)
				}
			}
			for other := range 20 {
				if hash := tlog.Leaf(record(other)); string(record(other)) != string(record(i)) {
					is(t, what+", another record", tlog.CheckRecord(proof, i, n, hash, root), api.ErrProof)
				}
				if other != n {
					hash, _ := l.Root(other)
					is(t, what+", another log's root", tlog.CheckRecord(proof, i, n, leaf, hash), api.ErrProof)
				}
			}
		}
	}
}

func TestP7_8_TreeProved(t *testing.T) {
	l := made(t, 20)
	for n := range 21 {
		root, _ := l.Root(n)
		for m := range n + 1 {
			proof, _ := l.ProveTree(m, n)
			old, _ := l.Root(m)
			what := fmt.Sprintf("CheckTree of %d in %d", m, n)
			is(t, what, tlog.CheckTree(proof, m, n, old, root), api.OK)
			if m == 0 {
				continue
			}
			for place := range 32 {
				is(t, what+", the old root turned", tlog.CheckTree(proof, m, n, turned(old, place), root), api.ErrProof)
				is(t, what+", the root turned", tlog.CheckTree(proof, m, n, old, turned(root, place)), api.ErrProof)
				for k := range proof {
					is(t, what+", a hash turned", tlog.CheckTree(with(proof, k, turned(proof[k], place)), m, n, old, root), api.ErrProof)
				}
			}
		}
	}
}

// A log in which one record was turned later on doesn't go on from the old one.
func TestP7_8_Forked(t *testing.T) {
	const n = 13
	l := made(t, n)
	for at := range n {
		forked := tlog.New()
		for i := range n {
			data := record(i)
			if i == at {
				data = append(data, '!')
			}
			forked.Append(data)
		}
		root, _ := forked.Root(n)
		for m := 1; m <= n; m++ {
			old, _ := l.Root(m)
			proof, _ := forked.ProveTree(m, n)
			want := api.OK
			if at < m {
				want = api.ErrProof
			}
			is(t, fmt.Sprintf("CheckTree of %d records, record %d turned", m, at), tlog.CheckTree(proof, m, n, old, root), want)
		}
	}
}

func TestP7_8_GreatProved(t *testing.T) {
	l := full()
	chance := rand.New(rand.NewSource(78))
	for range 300 {
		n := 2 + chance.Intn(api.MaxRecords-1)
		i := 1 + chance.Intn(n-1)
		root, _ := l.Root(n)
		old, _ := l.Root(i)
		leaf, _ := l.Hash(0, i)
		path, _ := l.Prove(i, n)
		growth, _ := l.ProveTree(i, n)
		is(t, "CheckRecord", tlog.CheckRecord(path, i, n, leaf, root), api.OK)
		is(t, "CheckTree", tlog.CheckTree(growth, i, n, old, root), api.OK)
		k, place := chance.Intn(len(path)), chance.Intn(32)
		is(t, "CheckRecord, a hash turned", tlog.CheckRecord(with(path, k, turned(path[k], place)), i, n, leaf, root), api.ErrProof)
		k = chance.Intn(len(growth))
		is(t, "CheckTree, a hash turned", tlog.CheckTree(with(growth, k, turned(growth[k], place)), i, n, old, root), api.ErrProof)
	}
}

// The places of each log: they go on one by one, and each has its tree.
func TestP7_9_Stored(t *testing.T) {
	at := 0
	for n := range 3000 {
		count, e := tlog.Count(n)
		is(t, fmt.Sprint("Count ", n, ", its error"), e, api.OK)
		is(t, fmt.Sprint("Count ", n), count, at)
		next, _ := tlog.Count(n + 1)
		for ; at < next; at++ {
			level, k, e := tlog.Split(at)
			is(t, fmt.Sprint("Split ", at, ", its error"), e, api.OK)
			is(t, fmt.Sprint("the end of the tree at place ", at), (k+1)<<level, n+1)
			index, e := tlog.Index(level, k)
			is(t, fmt.Sprint("Index of Split ", at, ", its error"), e, api.OK)
			is(t, fmt.Sprint("Index of Split ", at), index, at)
		}
	}
}

func TestP7_9_ThereAndBack(t *testing.T) {
	chance := rand.New(rand.NewSource(79))
	last, _ := tlog.Count(api.MaxRecords)
	for range 200000 {
		at := chance.Intn(last)
		level, k, e := tlog.Split(at)
		index, f := tlog.Index(level, k)
		if index != at || e != api.OK || f != api.OK {
			t.Fatalf("Split(%d): %d %d, error %d; Index of that: %d, error %d", at, level, k, e, index, f)
		}
		level = chance.Intn(21)
		k = chance.Intn(api.MaxRecords >> level)
		index, e = tlog.Index(level, k)
		gotLevel, gotK, f := tlog.Split(index)
		if gotLevel != level || gotK != k || e != api.OK || f != api.OK {
			t.Fatalf("Index(%d, %d): %d, error %d; Split of that: %d %d, error %d", level, k, index, e, gotLevel, gotK, f)
		}
	}
}

// byTiles is a read by the tiles of a log of n records: they are fetched by
// their paths from all that there are.
func byTiles(t *testing.T, l *tlog.Log, h, n int) tlog.Read {
	pages := map[string][]byte{}
	all, _ := tlog.Tiles(h, n)
	for _, tile := range all {
		path, e := tlog.Path(tile)
		is(t, fmt.Sprint("Path ", tile, ", its error"), e, api.OK)
		again, e := tlog.ParsePath(path)
		is(t, fmt.Sprint("ParsePath ", path, ", its error"), e, api.OK)
		is(t, fmt.Sprint("ParsePath ", path), again, tile)
		pages[path], e = l.Bytes(tile)
		is(t, fmt.Sprint("Bytes ", tile, ", its error"), e, api.OK)
	}
	is(t, "whether each tile has a path of its own", len(pages), len(all))
	return func(level, k int) ([]byte, api.Errno) {
		tile, e := tlog.TileOf(h, n, level, k)
		if e != api.OK {
			return nil, e
		}
		path, e := tlog.Path(tile)
		if e != api.OK || pages[path] == nil {
			t.Errorf("there is no tile %v, error %d", tile, e)
		}
		return tlog.InTile(tile, pages[path], level, k)
	}
}

func TestP7_10_TilesSuffice(t *testing.T) {
	const size = 80
	l := made(t, size)
	for h := 1; h <= 8; h++ {
		for _, n := range []int{0, 1, 2, 3, 4, 5, 7, 8, 9, 15, 16, 17, 20, 33, 37, 63, 64, 65, size} {
			read := byTiles(t, l, h, n)
			what := fmt.Sprintf("by tiles of height %d, of %d records", h, n)
			want, _ := l.Root(n)
			got, e := tlog.Root(n, read)
			answersBytes(t, "Root "+what, got, e, want, api.OK)
			for i := range n {
				wantProof, _ := l.Prove(i, n)
				proof, e := tlog.Prove(i, n, read)
				answersHashes(t, "Prove "+what, proof, e, wantProof, api.OK)
				wantProof, _ = l.ProveTree(i, n)
				proof, e = tlog.ProveTree(i, n, read)
				answersHashes(t, "ProveTree "+what, proof, e, wantProof, api.OK)
			}
			for level := range 8 {
				for k := range n >> level {
					want, _ := l.Hash(level, k)
					got, e := read(level, k)
					answersBytes(t, fmt.Sprint("the tree ", level, " ", k, " ", what), got, e, want, api.OK)
				}
			}
		}
	}
}

// Tiles of a log of 1000 records and more, whose greater trees lie in the
// second and third row.
func TestP7_10_TilesOfMoreSuffice(t *testing.T) {
	l := full()
	chance := rand.New(rand.NewSource(710))
	for h := 1; h <= 8; h++ {
		for _, n := range []int{1000, 1024, 4097} {
			read := byTiles(t, l, h, n)
			want, _ := l.Root(n)
			got, e := tlog.Root(n, read)
			answersBytes(t, "Root by tiles", got, e, want, api.OK)
			for _, i := range drawn(chance, n) {
				wantProof, _ := l.Prove(i, n)
				proof, e := tlog.Prove(i, n, read)
				answersHashes(t, "Prove by tiles", proof, e, wantProof, api.OK)
				wantProof, _ = l.ProveTree(i, n)
				proof, e = tlog.ProveTree(i, n, read)
				answersHashes(t, "ProveTree by tiles", proof, e, wantProof, api.OK)
			}
		}
	}
}

// A tile that is narrower than what there is still has the trees that it has.
func TestP7_10_NarrowTiles(t *testing.T) {
	l := made(t, 40)
	for h := 1; h <= 5; h++ {
		for w := 1; w <= 1<<h; w++ {
			tile := tlog.Tile{H: h, W: w}
			data, e := l.Bytes(tile)
			is(t, fmt.Sprint("Bytes ", tile, ", its error"), e, api.OK)
			for level := range h {
				for k := range 1 << h >> level {
					got, e := tlog.InTile(tile, data, level, k)
					if (k+1)<<level <= w {
						want, _ := l.Hash(level, k)
						answersBytes(t, fmt.Sprint("InTile ", tile, level, k), got, e, want, api.OK)
					} else {
						answersBytes(t, fmt.Sprint("InTile ", tile, level, k), got, e, nil, api.ErrRange)
					}
				}
			}
		}
	}
}

func TestP7_10_PathsThereAndBack(t *testing.T) {
	for h := 1; h <= 8; h++ {
		all, _ := tlog.Tiles(h, api.MaxRecords-1)
		for i, tile := range all {
			if h < 4 && i%37 != 0 && tile.W == 1<<h {
				continue
			}
			for _, w := range []int{1, tile.W/2 + 1, tile.W} {
				tile.W = w
				path, e := tlog.Path(tile)
				again, f := tlog.ParsePath(path)
				if e != api.OK || f != api.OK || again != tile {
					t.Errorf("Path(%v): %s, error %d; ParsePath of it: %v, error %d", tile, path, e, again, f)
				}
			}
		}
	}
}
