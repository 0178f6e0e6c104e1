package sumdb_test

import (
	"fmt"
	"math/rand"
	"slices"
	"testing"

	"mews/api"
	"mews/net"
	"mews/note"
	"mews/sumdb"
)

// honest is a network of the pages that Pages lays out.
func honest(t *testing.T, b *book, sizes []int) *net.Net {
	t.Helper()
	pages, e := sumdb.Pages(base, b.lines, sizes, b.key)
	done(t, e)
	n, e := net.New(pages, nil)
	done(t, e)
	return n
}

// leastOf is the least of sizes that has a record; 0, if none has it.
func leastOf(sizes []int, id int) int {
	for _, size := range sizes {
		if id < size {
			return size
		}
	}
	return 0
}

// Each choice of sizes, each head that a client may have had, each module.
func TestP12_8_Honest(t *testing.T) {
	const count = 7
	b := plain(t, count)
	for choice := 1; choice < 1<<count; choice++ {
		var sizes []int
		for i := range count {
			if choice>>i&1 == 1 {
				sizes = append(sizes, i+1)
			}
		}
		n := honest(t, b, sizes)
		for _, m := range append([]int{0}, sizes...) {
			for id := range count {
				what := fmt.Sprint(id, " of ", sizes, ", had ", m)
				c := client(t, n, b.head(m))
				if size := leastOf(sizes, id); size > 0 {
					looksUp(t, what, c, b.lines[id], b.head(max(m, size)))
				} else {
					looksUpNot(t, what, c, modOf(id), api.ErrNone, b.head(m))
				}
			}
			latest(t, "Latest", client(t, n, b.head(m)), b.head(sizes[len(sizes)-1]), b.head(sizes[len(sizes)-1]))
		}
	}
}

// One client that asks much: its head never falls, and is one that was signed.
func TestP12_8_HeadNeverFalls(t *testing.T) {
	chance := rand.New(rand.NewSource(128))
	b := plain(t, 70)
	for range 60 {
		var sizes []int
		for size := 1 + chance.Intn(5); size <= 70; size += 1 + chance.Intn(30) {
			sizes = append(sizes, size)
		}
		n := honest(t, b, sizes)
		head := append([]int{0}, sizes...)[chance.Intn(len(sizes)+1)]
		c := client(t, n, b.head(head))
		for range 30 {
			id := chance.Intn(70)
			size := leastOf(sizes, id)
			switch {
			case chance.Intn(20) == 0:
				head = sizes[len(sizes)-1]
				latest(t, "Latest", c, b.head(head), b.head(head))
			case size > 0:
				head = max(head, size)
				looksUp(t, fmt.Sprint(id, " of ", sizes), c, b.lines[id], b.head(head))
			default:
				looksUpNot(t, fmt.Sprint(id, " of ", sizes), c, modOf(id), api.ErrNone, b.head(head))
			}
		}
	}
}

// A server whose log has grown goes on serving those that knew it before.
func TestP12_8_Grown(t *testing.T) {
	b := plain(t, 40)
	n := honest(t, b, []int{3})
	c := client(t, n, noHead())
	looksUp(t, "at first", c, b.lines[1], b.head(3))
	for _, sizes := range [][]int{{3, 4}, {3, 4, 16}, {3, 4, 16, 39, 40}} {
		pages, e := sumdb.Pages(base, b.lines, sizes, key(t))
		done(t, e)
		layPages(t, n, pages)
		last := sizes[len(sizes)-1]
		looksUp(t, "grown", c, b.lines[last-1], b.head(last))
		looksUp(t, "grown, an older one", c, b.lines[1], b.head(last))
	}
}

// Of a log none of whose records is the client's, no lookup is answered.
func TestP12_10_AnotherLog(t *testing.T) {
	const count = 12
	b, other := plain(t, count), evil(t, count)
	for m := 1; m <= count; m++ {
		for _, sizes := range [][]int{{count}, slices.Compact([]int{m, count}), upTo(count)} {
			n := honest(t, other, sizes)
			c := client(t, n, b.head(m))
			for id := range count {
				looksUpNot(t, fmt.Sprint(id, " of ", sizes, ", had ", m), c, modOf(id), api.ErrFork, b.head(m))
			}
			latestNot(t, fmt.Sprint("had ", m), c, api.ErrFork, b.head(m))
		}
	}
}

// A log that has its first records in common with the client's, fewer than the
// client knows: nothing is answered by its tiles; by those of the client's log,
// what is in common, and the head stays.
func TestP12_10_Forks(t *testing.T) {
	const count = 12
	b := plain(t, count)
	for common := range count {
		fork := newBook(t, count, common, "fork")
		for _, tiles := range []*book{b, fork} {
			n := honest(t, tiles, upTo(count))
			for m := common + 1; m <= count; m++ {
				c := client(t, n, b.head(m))
				for id := range count {
					for size := id + 1; size <= count; size++ {
						lay(t, n, lookupURL(id), fork.lookupOf(t, id, size))
						what := fmt.Sprint(id, " of ", size, ", had ", m, ", ", common, " in common")
						if tiles == b && size <= common {
							looksUp(t, what, c, b.lines[id], b.head(m))
						} else {
							looksUpNot(t, what, c, modOf(id), api.ErrFork, b.head(m))
						}
					}
				}
			}
		}
	}
}

// Whoever knows of no record takes the one log or the other, but not both.
func TestP12_10_NotBoth(t *testing.T) {
	b, other := plain(t, 9), evil(t, 9)
	n := honest(t, other, []int{4, 9})
	c := client(t, n, noHead())
	looksUp(t, "the one", c, other.lines[2], other.head(4))
	layPages(t, n, modelPages(t, base, b, []int{4, 9}))
	for id := range 9 {
		looksUpNot(t, "the other one", c, modOf(id), api.ErrFork, other.head(4))
	}
	layPages(t, n, modelPages(t, base, other, []int{4, 9}))
	looksUp(t, "the one again", c, other.lines[8], other.head(9))
}

// A fork that is signed by a key that isn't the log's is no fork: nobody says it.
func TestP12_10_AnotherKey(t *testing.T) {
	b, other := plain(t, 9), evil(t, 9)
	other.key = newKey(t, "log", "other")
	n := honest(t, other, []int{4, 9})
	for _, m := range []int{0, 4, 9} {
		c := client(t, n, b.head(m))
		for id := range 9 {
			looksUpNot(t, "another key", c, modOf(id), api.ErrSign, b.head(m))
		}
		latestNot(t, "another key", c, api.ErrSign, b.head(m))
	}
}

// known is the books of the walks: logs that part from one another early or late.
func known(t *testing.T) []*book {
	t.Helper()
	const count = 19
	books := []*book{plain(t, count), evil(t, count)}
	for _, common := range []int{1, 3, 4, 7, 8, 15} {
		books = append(books, newBook(t, count, common, fmt.Sprint("fork ", common)))
	}
	return books
}

// ownerOf is a book whose head this is; nil, if it is none's.
func ownerOf(books []*book, h note.Head) *book {
	for _, b := range books {
		if h.Size <= len(b.texts) && tellHead(b.head(h.Size)) == tellHead(h) {
			return b
		}
	}
	return nil
}
