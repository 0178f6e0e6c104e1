package tlog_test

import (
	"bytes"
	"fmt"
	"math"
	"math/rand"
	"slices"
	"testing"

	"mews/api"
	"mews/tlog"
)

func TestP7_5_Examples(t *testing.T) {
	a, e := tlog.TileOf(2, 5, 0, 4)
	is(t, "TileOf(2, 5, 0, 4)", a, tlog.Tile{H: 2, L: 0, N: 1, W: 1})
	is(t, "its error", e, api.OK)
	b, e := tlog.TileOf(2, 5, 2, 0)
	is(t, "TileOf(2, 5, 2, 0)", b, tlog.Tile{H: 2, L: 1, N: 0, W: 1})
	is(t, "its error", e, api.OK)
	all, e := tlog.Tiles(2, 5)
	areList(t, "Tiles(2, 5)", all, []tlog.Tile{{H: 2, L: 0, N: 0, W: 4}, {H: 2, L: 0, N: 1, W: 1}, {H: 2, L: 1, N: 0, W: 1}})
	is(t, "its error", e, api.OK)
}

// someSizes is numbers of records at which tiles of each height end.
func someSizes() []int {
	var list []int
	for n := range 70 {
		list = append(list, n)
	}
	return append(list, 127, 128, 129, 255, 256, 257, 511, 512, 513, 600)
}

func TestP7_5_Tiles(t *testing.T) {
	for h := 1; h <= 8; h++ {
		for _, n := range append(someSizes(), 1023, 1024, 4097, 65535, 65536, 65537) {
			got, e := tlog.Tiles(h, n)
			is(t, fmt.Sprint("Tiles ", h, " ", n, ", its error"), e, api.OK)
			areList(t, fmt.Sprint("Tiles ", h, " ", n), got, modelTiles(h, n))
		}
	}
	got, e := tlog.Tiles(8, 0)
	is(t, "Tiles of no records, its error", e, api.OK)
	is(t, "Tiles of no records", len(got), 0)
}

func TestP7_5_TilesOfMany(t *testing.T) {
	for _, h := range []int{1, 3, 8} {
		for _, n := range []int{api.MaxRecords - 1, api.MaxRecords} {
			got, e := tlog.Tiles(h, n)
			is(t, fmt.Sprint("Tiles ", h, " ", n, ", its error"), e, api.OK)
			is(t, fmt.Sprint("Tiles ", h, " ", n), slices.Equal(got, modelTiles(h, n)), true)
		}
	}
}

func TestP7_5_TilesEdges(t *testing.T) {
	for _, h := range edges() {
		for _, n := range append(edges(), 0, 5) {
			if h >= 1 && h <= 8 && n >= 0 && n <= api.MaxRecords {
				continue
			}
			got, e := tlog.Tiles(h, n)
			is(t, fmt.Sprint("Tiles ", h, " ", n, ", its error"), e, api.ErrRange)
			is(t, fmt.Sprint("Tiles ", h, " ", n), len(got), 0)
		}
	}
}

// tileOf is the tile among all of them that has the first of the hashes that
// are below the tree.
func tileOf(h, n, level, k int) tlog.Tile {
	row := level / h
	first := k << (level - h*row)
	for _, tile := range modelTiles(h, n) {
		if tile.L == row && tile.N<<h <= first && first < tile.N<<h+tile.W {
			return tile
		}
	}
	panic("there is none")
}

func TestP7_5_TileOf(t *testing.T) {
	for h := 1; h <= 8; h++ {
		for _, n := range []int{0, 1, 2, 3, 4, 5, 7, 8, 9, 16, 17, 31, 64, 65, 255, 256, 300} {
			for level := -1; level <= 22; level++ {
				for k := -1; k <= n+1; k++ {
					what := fmt.Sprintf("TileOf(%d, %d, %d, %d)", h, n, level, k)
					got, e := tlog.TileOf(h, n, level, k)
					if !modelHasTree(level, k, n) {
						is(t, what, got, tlog.Tile{})
						is(t, what+", its error", e, api.ErrRange)
						continue
					}
					is(t, what, got, tileOf(h, n, level, k))
					is(t, what+", its error", e, api.OK)
				}
			}
		}
	}
}

func TestP7_5_TileOfEdges(t *testing.T) {
	for _, h := range append(edges(), 6) {
		for _, n := range edges() {
			for _, level := range edges() {
				for _, k := range edges() {
					got, e := tlog.TileOf(h, n, level, k)
					fits := h >= 1 && h <= 8 && n >= 0 && n <= api.MaxRecords && modelHasTree(level, k, n)
					if fits != (e == api.OK) || !fits && (e != api.ErrRange || got != tlog.Tile{}) {
						t.Errorf("TileOf(%d, %d, %d, %d): %v, error %d", h, n, level, k, got, e)
					}
					if fits && (!modelWithin(got, n) || got.H != h || got.L != level/h || got.N != k<<(level%h)>>h) {
						t.Errorf("TileOf(%d, %d, %d, %d): %v", h, n, level, k, got)
					}
				}
			}
		}
	}
}

// At the end of the greatest log: the last tile of each row is full.
func TestP7_5_TileOfLast(t *testing.T) {
	for h := 1; h <= 8; h++ {
		for level := range 21 {
			got, e := tlog.TileOf(h, api.MaxRecords, level, api.MaxRecords>>level-1)
			row := level / h
			there := api.MaxRecords >> (h * row)
			is(t, "TileOf of the last tree, its error", e, api.OK)
			is(t, "TileOf of the last tree", got, tlog.Tile{H: h, L: row, N: (there - 1) >> h, W: min(there, 1<<h)})
		}
	}
}

// Each tile of each log, as wide as it is, and narrower, and wider.
func TestP7_5_Bytes(t *testing.T) {
	all := records(600)
	for _, n := range []int{0, 1, 2, 3, 5, 8, 20, 37, 64, 255, 256, 600} {
		l := made(t, n)
		for h := 1; h <= 8; h++ {
			for _, tile := range modelTiles(h, n) {
				if n > 64 && tile.N > 2 && tile.W == 1<<h {
					continue
				}
				var want []byte
				for i := range tile.W {
					want = append(want, modelTree(all, h*tile.L, tile.N<<h+i)...)
				}
				for w := -1; w <= tile.W+2; w++ {
					narrow := tlog.Tile{H: h, L: tile.L, N: tile.N, W: w}
					got, e := l.Bytes(narrow)
					if w < 1 || w > tile.W {
						answersBytes(t, fmt.Sprint("Bytes ", narrow), got, e, nil, api.ErrRange)
					} else {
						answersBytes(t, fmt.Sprint("Bytes ", narrow), got, e, want[:32*w], api.OK)
					}
				}
			}
		}
	}
}

func TestP7_5_BytesEdges(t *testing.T) {
	for _, n := range []int{0, 1, 40} {
		l := made(t, n)
		bytesOfEdges(t, l, n)
	}
	bytesOfEdges(t, full(), api.MaxRecords)
}

// bytesOfEdges fails the test unless Bytes takes just the tiles of n records.
func bytesOfEdges(t *testing.T, l *tlog.Log, n int) {
	t.Helper()
	for _, tile := range edgeTiles() {
		length, want := 0, api.ErrRange
		if modelWithin(tile, n) {
			length, want = 32*tile.W, api.OK
		}
		if got, e := l.Bytes(tile); len(got) != length || e != want {
			t.Errorf("Bytes(%v) of %d records: %d bytes, error %d, not %d", tile, n, len(got), e, want)
		}
	}
}

// edgeTiles is tiles, and what is none, with numbers at which something ends.
func edgeTiles() []tlog.Tile {
	var list []tlog.Tile
	for _, h := range []int{math.MinInt, -1, 0, 1, 2, 3, 7, 8, 9, 63, 64, math.MaxInt} {
		for _, row := range edges() {
			for _, number := range edges() {
				for _, w := range []int{math.MinInt, -1, 0, 1, 2, 3, 4, 5, 8, 9, 255, 256, 257, math.MaxInt} {
					list = append(list, tlog.Tile{H: h, L: row, N: number, W: w})
				}
			}
		}
	}
	return list
}

// noise is so many hashes that are like none other.
func noise(count int) []byte {
	var data []byte
	for i := range count {
		data = append(data, sum([]byte(fmt.Sprint("noise ", i)))...)
	}
	return data
}

// Each tree in tiles of each height and width, and trees beside them.
func TestP7_5_InTile(t *testing.T) {
	for h := 1; h <= 8; h++ {
		for _, w := range []int{1, 2, 3, 4, 5, 6, 7, 8, 9, 16, 31, 32, 33, 64, 100, 127, 128, 129, 255, 256} {
			if w > 1<<h {
				continue
			}
			data := noise(w)
			for _, place := range [][2]int{{0, 0}, {0, 1}, {1, 0}, {2, 5}} {
				tile := tlog.Tile{H: h, L: place[0], N: place[1], W: w}
				inTile(t, tile, data)
			}
		}
	}
}

// inTile fails the test unless InTile answers as the model does, for all trees
// in the tile and some beside it.
func inTile(t *testing.T, tile tlog.Tile, data []byte) {
	t.Helper()
	for above := -2; above <= tile.H+1; above++ {
		level := tile.H*tile.L + above
		first := tile.N << tile.H >> max(above, 0)
		for k := first - 2; k <= first+tile.W+2; k++ {
			got, e := tlog.InTile(tile, data, level, k)
			want, wantE := modelInTile(tile, data, level, k)
			answersBytes(t, fmt.Sprintf("InTile(%v, %d, %d)", tile, level, k), got, e, want, wantE)
		}
	}
}

// ErrForm comes ahead of ErrRange.
func TestP7_5_InTileForm(t *testing.T) {
	data := make([]byte, 256*32+32)
	for _, tile := range edgeTiles() {
		if modelIsTile(tile) {
			continue
		}
		for _, count := range []int{0, 1, 32, 64, 256 * 32} {
			for _, k := range []int{0, -1} {
				got, e := tlog.InTile(tile, data[:count], tile.L, k)
				if len(got) > 0 || e != api.ErrForm {
					t.Errorf("InTile(%v, %d bytes, %d, %d): error %d", tile, count, tile.L, k, e)
				}
			}
		}
	}
	for h := 1; h <= 8; h++ {
		for w := 1; w <= 1<<h; w++ {
			tile := tlog.Tile{H: h, N: 1, W: w}
			for _, count := range []int{0, 1, 32*w - 32, 32*w - 1, 32*w + 1, 32*w + 32} {
				if count == 32*w {
					continue
				}
				for _, x := range []tree{{0, 1 << h}, {0, 0}, {-1, 0}, {h, 0}} {
					got, e := tlog.InTile(tile, data[:count], x.level, x.k)
					answersBytes(t, fmt.Sprint("InTile ", tile, " with ", count, " bytes"), got, e, nil, api.ErrForm)
				}
			}
		}
	}
}

// A tile has no last place here: numbers are what they are without bounds.
func TestP7_5_InTileFar(t *testing.T) {
	data := noise(256)
	found := 0
	for _, tile := range edgeTiles() {
		if !modelIsTile(tile) {
			continue
		}
		part := data[:32*tile.W]
		for _, level := range []int{0, tile.L, tile.H * tile.L, tile.H*tile.L + 1, tile.H*tile.L + tile.H, tile.H*tile.L - 1, math.MaxInt, math.MinInt} {
			for _, k := range []int{0, 1, tile.N << tile.H, tile.N<<tile.H + 1, tile.N<<tile.H>>1 + 1, tile.N << (tile.H - 1), -1, math.MaxInt, math.MinInt} {
				got, e := tlog.InTile(tile, part, level, k)
				want, wantE := modelInTile(tile, part, level, k)
				if e != wantE || !bytes.Equal(got, want) {
					t.Errorf("InTile(%v, %d, %d): error %d, not %d", tile, level, k, e, wantE)
				}
				if e == api.OK && (tile.N > api.MaxRecords || tile.L > 20) {
					found++
				}
			}
		}
	}
	is(t, fmt.Sprint("whether some far ones were found: ", found), found > 100, true)
	got, e := tlog.InTile(tlog.Tile{H: 8, N: 1 << 54, W: 8}, data[:256], 0, 1<<62+3)
	answersBytes(t, "InTile far out", got, e, data[96:128], api.OK)
	got, e = tlog.InTile(tlog.Tile{H: 8, N: 1 << 60, W: 8}, data[:256], 0, 3)
	answersBytes(t, "InTile of a number that would wrap round", got, e, nil, api.ErrRange)
	got, e = tlog.InTile(tlog.Tile{H: 8, L: 1 << 61, W: 8}, data[:256], 0, 3)
	answersBytes(t, "InTile of a level that would wrap round", got, e, nil, api.ErrRange)
}

func TestP7_5_InTileDrawn(t *testing.T) {
	chance := rand.New(rand.NewSource(75))
	data := noise(256)
	found := map[api.Errno]int{}
	for range 50000 {
		h := 1 + chance.Intn(8)
		tile := tlog.Tile{H: h, L: chance.Intn(4), N: chance.Intn(3), W: 1 + chance.Intn(1<<h)}
		level := tile.L*h + chance.Intn(h+1)
		k := tile.N<<h>>(level-tile.L*h) + chance.Intn(tile.W+1) - chance.Intn(2)
		got, e := tlog.InTile(tile, data[:32*tile.W], level, k)
		want, wantE := modelInTile(tile, data[:32*tile.W], level, k)
		answersBytes(t, fmt.Sprintf("InTile(%v, %d, %d)", tile, level, k), got, e, want, wantE)
		found[e]++
	}
	is(t, fmt.Sprint("whether there were enough: ", found), found[api.OK] > 5000 && found[api.ErrRange] > 5000, true)
}
