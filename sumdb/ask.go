package sumdb

import (
	"mews/api"
	"mews/note"
	"mews/sumfile"
	"mews/tlog"
)

// Lookup is what the log says of a module.
func (c *Client) Lookup(m api.Mod) ([]sumfile.Line, api.Errno) {
	return guarded(func() []sumfile.Line {
		url := must(URL(m))
		l := must(readLookup(must(c.p.Fetch(url))))
		insist(l.lines[0].Mod == m, api.ErrReply)
		read := c.byTiles()
		prove(l, c.comes(l.note, read), read)
		return l.lines
	})
}

// prove takes it for a fault, if a record isn't in the log that a head says.
func prove(l lookup, h note.Head, read trees) {
	// That the number isn't below the head's size is an error of Prove's.
	proof := must(tlog.Prove(l.id, h.Size, read(h.Size)))
	e := tlog.CheckRecord(proof, l.id, h.Size, tlog.Leaf(l.record), h.Root)
	insist(e == api.OK, api.ErrProof)
}

// Latest asks for the latest head.
func (c *Client) Latest() (note.Head, api.Errno) {
	return guarded(func() note.Head {
		signed := must(c.p.Fetch(latestURL))
		return c.comes(string(signed), c.byTiles())
	})
}

// Take takes a head.
func (c *Client) Take(h note.Head) api.Errno {
	_, e := guarded(func() note.Head { return c.takes(h, c.byTiles()) })
	return e
}

// comes is the head that a note says, behind its being taken.
func (c *Client) comes(signed string, read trees) note.Head {
	opened, e := note.Open(signed, []note.Key{c.key})
	insist(e == api.OK, api.ErrSign)
	h, e := note.ParseHead(opened.Text)
	insist(e == api.OK, api.ErrReply)
	return c.takes(h, read)
}

// takes is a head that is the client's own log's, now or once: of it and the
// client's one the longer goes on from the shorter, and is the client's then.
// (Of the same size no proof is needed: the roots are the same, or it is a fork.)
func (c *Client) takes(h note.Head, read trees) note.Head {
	insist(isHead(h), api.ErrForm)
	older, newer := c.head, h
	if h.Size < c.head.Size {
		older, newer = h, c.head
	}
	proof := must(tlog.ProveTree(older.Size, newer.Size, read(newer.Size)))
	e := tlog.CheckTree(proof, older.Size, newer.Size, older.Root, newer.Root)
	insist(e == api.OK, api.ErrFork)
	c.head = copied(newer)
	return h
}
