package tlog

import (
	"bytes"

	"mews/api"
)

const maxHeight = 8

// Tile is a part of a log's hashes.
type Tile struct{ H, L, N, W int }

// TileOf is the tile in which a hash is found.
func TileOf(h, n, level, k int) (Tile, api.Errno) {
	if !isHeight(h) || !isSize(n) || !isTree(level, k, n) {
		return Tile{}, api.ErrRange
	}
	row := level / h
	return widest(h, n, row, k<<(level-h*row)>>h), api.OK
}

// Tiles are all tiles of a log.
func Tiles(h, n int) ([]Tile, api.Errno) {
	if !isHeight(h) || !isSize(n) {
		return nil, api.ErrRange
	}
	var list []Tile
	for row := 0; n>>(h*row) > 0; row++ {
		for number := 0; number<<h < n>>(h*row); number++ {
			list = append(list, widest(h, n, row, number))
		}
	}
	return list, api.OK
}

// widest is the tile at a place, with as many hashes as n records have there.
func widest(h, n, row, number int) Tile {
	there := n>>(h*row) - number<<h
	return Tile{H: h, L: row, N: number, W: min(there, 1<<h)}
}

// Bytes are a tile's hashes.
func (l *Log) Bytes(t Tile) ([]byte, api.Errno) {
	if !isWithin(t, l.size) {
		return nil, api.ErrRange
	}
	data := make([]byte, 0, hashSize*t.W)
	for i := range t.W {
		data = append(data, l.at(t.H*t.L, t.N<<t.H+i)...)
	}
	return data, api.OK
}

// InTile is a hash that is found in a tile.
func InTile(t Tile, data []byte, level, k int) ([]byte, api.Errno) {
	if !isTile(t) || len(data) != hashSize*t.W {
		return nil, api.ErrForm
	}
	if level < 0 || k < 0 || level/t.H != t.L {
		return nil, api.ErrRange
	}
	// A tile's number has no bound here, so it is held against k's, and nothing
	// is worked out that could be beyond what an int holds.
	above := level % t.H
	ahead, within := k>>(t.H-above), k&(1<<(t.H-above)-1)
	if ahead != t.N || (within+1)<<above > t.W {
		return nil, api.ErrRange
	}
	return wholeHash(data[hashSize*within<<above : hashSize*(within+1)<<above]), api.OK
}

// wholeHash is the hash of the whole tree above some hashes.
func wholeHash(hashes []byte) []byte {
	if len(hashes) == hashSize {
		return bytes.Clone(hashes)
	}
	half := len(hashes) / 2
	return Node(wholeHash(hashes[:half]), wholeHash(hashes[half:]))
}

// isHeight tells whether a tile may be so high.
func isHeight(h int) bool { return 1 <= h && h <= maxHeight }

// isTile tells whether t is a tile, of a log of whatever size.
func isTile(t Tile) bool {
	return isHeight(t.H) && t.L >= 0 && t.N >= 0 && 1 <= t.W && t.W <= 1<<t.H
}

// isWithin tells whether t is a tile whose trees are within n records.
func isWithin(t Tile, n int) bool {
	if !isTile(t) || t.L > maxLevel {
		return false
	}
	there := n >> (t.H * t.L)
	// A number that is too great by far could wrap round when it is shifted.
	return t.N <= there>>t.H && t.N<<t.H+t.W <= there
}
