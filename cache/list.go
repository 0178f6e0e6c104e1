package cache

import (
	"slices"
	"strings"

	"mews/api"
	"mews/journal"
	"mews/mod"
)

// eachFile tells the files of a part of the directory.
func (c *Cache) eachFile(part string, tell func(file string)) {
	for _, file := range c.f.List(c.dir + part) {
		tell(file)
	}
}

// eachEntry tells the entries whose names' files are there, with these.
func (c *Cache) eachEntry(tell func(e Entry, name string)) {
	c.eachFile(namePart, func(file string) {
		if e, ok := c.entryOf(file); ok {
			tell(e, file)
		}
	})
}

// those is the entries that a function takes, in order.
func (c *Cache) those(take func(e Entry) bool) []Entry {
	var l []Entry
	c.eachEntry(func(e Entry, name string) {
		if take(e) {
			l = append(l, e)
		}
	})
	slices.SortFunc(l, compare)
	return l
}

// compare tells which entry stands ahead.
func compare(a, b Entry) int {
	switch {
	case mod.Less(a.Mod, b.Mod):
		return -1
	case mod.Less(b.Mod, a.Mod):
		return 1
	default:
		return strings.Compare(a.Kind, b.Kind)
	}
}

// List tells the entries.
func (c *Cache) List() []Entry {
	return c.those(func(e Entry) bool { return true })
}

// Bad tells those that are bad.
func (c *Cache) Bad() []Entry {
	return c.those(func(e Entry) bool { return !c.Has(e) })
}

// Sweep lets all go that isn't kept, and tells how many files went.
func (c *Cache) Sweep(keep []Entry) (int, api.Errno) {
	if c.looksOnly() {
		return 0, api.ErrDown
	}
	kept := map[Entry]struct{}{}
	for _, e := range keep {
		kept[e] = struct{}{}
	}
	l := c.sweepChanges(kept)
	if errno := c.tx.Apply(l); errno != api.OK {
		return 0, errno
	}
	return len(l), api.OK
}

// sweepChanges is what lets all go but these entries. Names go first: whatever
// is left half done, a name says no blob that isn't there.
func (c *Cache) sweepChanges(kept map[Entry]struct{}) []journal.Change {
	var l []journal.Change
	needed := map[string]struct{}{}
	c.eachEntry(func(e Entry, name string) {
		if _, stays := kept[e]; !stays {
			l = append(l, journal.Change{Name: name, Drop: true})
		} else if digits, says := c.said(name); says {
			needed[c.blobFile(digits)] = struct{}{}
		}
	})
	c.eachFile(blobPart, func(file string) {
		if _, stays := needed[file]; !stays {
			l = append(l, journal.Change{Name: file, Drop: true})
		}
	})
	return l
}
