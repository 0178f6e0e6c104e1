package sumdb

import (
	"mews/api"
	"mews/tlog"
)

// trees tells how the whole trees of a log of some size are read.
type trees func(size int) tlog.Read

// byTiles reads whole trees in the tiles that the server has. What it fetched it
// remembers: each call of the client takes one, so that it fetches no tile twice
// and the next call asks anew.
func (c *Client) byTiles() trees {
	fetched := map[tlog.Tile][]byte{}
	return func(size int) tlog.Read {
		return func(level, k int) ([]byte, api.Errno) {
			t := must(tlog.TileOf(Height, size, level, k))
			if _, there := fetched[t]; !there {
				fetched[t] = c.tile(t)
			}
			return tlog.InTile(t, fetched[t], level, k)
		}
	}
}

// tile is the bytes of a tile, as wide as it is.
func (c *Client) tile(t tlog.Tile) []byte {
	data := must(c.p.Fetch(tileURL(t)))
	insist(len(data) == hashSize*t.W, api.ErrReply)
	return data
}
