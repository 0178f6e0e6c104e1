package sumdb

import (
	"mews/api"
	"mews/net"
	"mews/note"
	"mews/sumfile"
	"mews/tlog"
)

// server is an honest one: its records, and the log of them that it signs.
type server struct {
	base    string
	mods    []api.Mod
	records [][]byte
	log     *tlog.Log
	key     note.Key
}

// Pages is what an honest server has.
func Pages(base string, records [][]sumfile.Line, sizes []int, key note.Key) ([]net.Page, api.Errno) {
	return guarded(func() []net.Page {
		s := newServer(base, records, key)
		insist(areSizes(sizes, len(records)), api.ErrRange)
		insist(areUnlike(s.mods), api.ErrThere)
		return append(s.signed(sizes), s.tiles(sizes)...)
	})
}

// newServer makes a server. A record at fault is told ahead of there being too
// many of them for a log.
func newServer(base string, records [][]sumfile.Line, key note.Key) *server {
	s := &server{base: base, log: tlog.New(), key: key}
	for _, lines := range records {
		s.records = append(s.records, must(Record(lines)))
		s.mods = append(s.mods, lines[0].Mod)
	}
	for _, record := range s.records {
		must(s.log.Append(record))
	}
	return s
}

// areSizes tells whether a log of so many records has all of these sizes, one
// behind the other.
func areSizes(sizes []int, count int) bool {
	last := 0
	for _, size := range sizes {
		if size <= last {
			return false
		}
		last = size
	}
	return 0 < last && last <= count
}

// areUnlike tells whether no module is there twice.
func areUnlike(mods []api.Mod) bool {
	known := map[api.Mod]struct{}{}
	for _, m := range mods {
		known[m] = struct{}{}
	}
	return len(known) == len(mods)
}

// signed is the pages that have a note: the lookups, each with the note of the
// first size that has its record, and the latest note.
func (s *server) signed(sizes []int) []net.Page {
	var pages []net.Page
	id, signed := 0, ""
	for _, size := range sizes {
		signed = s.note(size)
		for ; id < size; id++ {
			url := must(URL(s.mods[id]))
			pages = append(pages, s.page(url, FormatLookup(id, s.records[id], signed)))
		}
	}
	return append(pages, s.page(latestURL, []byte(signed)))
}

// tiles is the pages of the tiles of a log that had all of these sizes.
func (s *server) tiles(sizes []int) []net.Page {
	var pages []net.Page
	told := map[tlog.Tile]struct{}{}
	for _, size := range sizes {
		for _, t := range must(tlog.Tiles(Height, size)) {
			if _, there := told[t]; there {
				continue
			}
			told[t] = struct{}{}
			pages = append(pages, s.page(tileURL(t), must(s.log.Bytes(t))))
		}
	}
	return pages
}

// page is a page behind the base.
func (s *server) page(url string, data []byte) net.Page {
	return net.Page{URL: s.base + url, Data: data}
}

// note is the signed head of the log when it had so many records.
func (s *server) note(size int) string {
	h := note.Head{Size: size, Root: must(s.log.Root(size))}
	return must(note.Sign(must(note.FormatHead(h)), []note.Key{s.key}))
}
