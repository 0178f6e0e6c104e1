package sumdb_test

import (
	"crypto/sha256"
	"encoding/base64"
	"fmt"
	"regexp"
	"strings"
	"testing"

	"mews/api"
	"mews/mod"
	"mews/net"
	"mews/note"
	"mews/sumfile"
)

// This is a second reading of the chapter, made otherwise than the program: it
// hands errors on as values, lists the hashes that a proof needs ahead of reading
// them, and checks proofs by RFC 9162's loops.

func modelLeaf(record string) string {
	b := sha256.Sum256([]byte("\x00" + record))
	return string(b[:])
}

func modelNode(left, right string) string {
	b := sha256.Sum256([]byte("\x01" + left + right))
	return string(b[:])
}

// half is the greatest power of two that is less than count.
func half(count int) int {
	p := 1
	for 2*p < count {
		p *= 2
	}
	return p
}

// modelRoot is the hash of records.
func modelRoot(records []string) string {
	switch len(records) {
	case 0:
		b := sha256.Sum256(nil)
		return string(b[:])
	case 1:
		return modelLeaf(records[0])
	}
	p := half(len(records))
	return modelNode(modelRoot(records[:p]), modelRoot(records[p:]))
}

// reach is some records in a row, from the one to the other (not that).
type reach struct{ from, to int }

// pathOf is what the audit path of a record has the hashes of, in order.
func pathOf(i, from, to int) []reach {
	if to-from == 1 {
		return nil
	}
	middle := from + half(to-from)
	if i < middle {
		return append(pathOf(i, from, middle), reach{middle, to})
	}
	return append(pathOf(i, middle, to), reach{from, middle})
}

// growthOf is what the proof of consistency has the hashes of, in order.
func growthOf(m, from, to int, whole bool) []reach {
	switch {
	case m == to && whole:
		return nil
	case m == to:
		return []reach{{from, to}}
	}
	middle := from + half(to-from)
	if m <= middle {
		return append(growthOf(m, from, middle, whole), reach{middle, to})
	}
	return append(growthOf(m, middle, to, false), reach{from, middle})
}

// modelTree is a whole tree.
type modelTree struct{ level, k int }

// treesOf is the greatest whole trees of some records, from the left.
func treesOf(r reach) []modelTree {
	var l []modelTree
	for r.from < r.to {
		level := 0
		for 2<<level <= r.to-r.from {
			level++
		}
		l = append(l, modelTree{level, r.from >> level})
		r.from += 1 << level
	}
	return l
}

// modelTile is where a tile of height 2 stands, how many hashes it has, and the
// place in it of the first hash of a tree.
func modelTile(size int, tree modelTree) (url string, width, place int) {
	row := tree.level / 2
	first := tree.k << (tree.level % 2)
	number := first / 4
	width = min(4, size>>(2*row)-4*number)
	digits := fmt.Sprintf("%03d", number%1000)
	for rest := number / 1000; rest > 0; rest /= 1000 {
		digits = fmt.Sprintf("x%03d/", rest%1000) + digits
	}
	url = fmt.Sprintf("/tile/2/%d/%s", row, digits)
	if width < 4 {
		url += fmt.Sprintf(".p/%d", width)
	}
	return url, width, first % 4
}

// provesRecord is RFC 9162's check of an audit path.
func provesRecord(proof []string, i, size int, leaf, root string) bool {
	a, b, made := i, size-1, leaf
	for _, hash := range proof {
		if b == 0 {
			return false
		}
		if a%2 == 1 || a == b {
			made = modelNode(hash, made)
			for a%2 == 0 && a != 0 {
				a, b = a/2, b/2
			}
		} else {
			made = modelNode(made, hash)
		}
		a, b = a/2, b/2
	}
	return b == 0 && made == root
}

// provesGrowth is RFC 9162's check of a proof of consistency; of no records, or
// of as many, there is none.
func provesGrowth(proof []string, m, size int, old, root string) bool {
	if m == 0 || m == size {
		return len(proof) == 0 && (m == 0 || old == root)
	}
	if m&(m-1) == 0 {
		proof = append([]string{old}, proof...)
	}
	a, b := m-1, size-1
	for a%2 == 1 {
		a, b = a/2, b/2
	}
	was, now := proof[0], proof[0]
	for _, hash := range proof[1:] {
		if b == 0 {
			return false
		}
		if a%2 == 1 || a == b {
			was, now = modelNode(hash, was), modelNode(hash, now)
			for a%2 == 0 && a != 0 {
				a, b = a/2, b/2
			}
		} else {
			now = modelNode(now, hash)
		}
		a, b = a/2, b/2
	}
	return b == 0 && was == old && now == root
}

// modelPages is what an honest server has.
func modelPages(t *testing.T, base string, b *book, sizes []int) []net.Page {
	t.Helper()
	var pages []net.Page
	add := func(url, text string) { pages = append(pages, net.Page{URL: base + url, Data: []byte(text)}) }
	for id, l := range b.lines {
		for _, size := range sizes {
			if id < size {
				add(modelURL(l[0].Mod), b.lookupOf(t, id, size))
				break
			}
		}
	}
	add("/latest", b.noteOf(t, sizes[len(sizes)-1]))
	told := map[string]bool{}
	for _, size := range sizes {
		for row := 0; size>>(2*row) > 0; row++ {
			for first := 0; first < size>>(2*row); first += 4 {
				url, width, _ := modelTile(size, modelTree{2 * row, first})
				if !told[url] {
					told[url] = true
					add(url, b.tileText(row, first, width))
				}
			}
		}
	}
	return pages
}

// tileText is hashes of whole trees of a tile's row, one behind the other.
func (b *book) tileText(row, first, width int) string {
	text := ""
	for k := first; k < first+width; k++ {
		text += modelRoot(b.texts[k<<(2*row) : (k+1)<<(2*row)])
	}
	return text
}

// modelURL is where a module's lookup stands.
func modelURL(m api.Mod) string {
	capital := regexp.MustCompile("[A-Z]")
	escape := func(s string) string {
		return capital.ReplaceAllStringFunc(s, func(c string) string { return "!" + strings.ToLower(c) })
	}
	return "/lookup/" + escape(m.Path) + "@" + escape(m.Version)
}

// The form of a record, and of a lookup.
const (
	recordForm = `([^ \n]+) ([^ \n]+) (h1:[^ \n]+)\n([^ \n]+) ([^ \n]+)/go\.mod (h1:[^ \n]+)\n`
	lookupForm = `^(0|[1-9][0-9]{0,6})\n((?:[^\n]+\n)*)\n((?s:.+))$`
)

// modelRecord is a record's lines.
func modelRecord(text string) ([]sumfile.Line, bool) {
	p := regexp.MustCompile("^" + recordForm + "$").FindStringSubmatch(text)
	if p == nil || p[1] != p[4] || p[2] != p[5] || mod.Check(at(p[1], p[2])) != api.OK {
		return nil, false
	}
	m := at(p[1], p[2])
	for _, sum := range []string{p[3], p[6]} {
		b, err := base64.StdEncoding.Strict().DecodeString(sum[3:])
		if err != nil || len(b) != 32 || len(sum) != 47 {
			return nil, false
		}
	}
	return []sumfile.Line{{Mod: m, Kind: sumfile.Tree, Sum: p[3]}, {Mod: m, Kind: sumfile.Manifest, Sum: p[6]}}, true
}

// modelLookup is a lookup's parts.
type modelLookup struct {
	id     int
	record string
	lines  []sumfile.Line
	signed string
}

// readModelLookup is a lookup's parts.
func readModelLookup(text string) (modelLookup, bool) {
	p := regexp.MustCompile(lookupForm).FindStringSubmatch(text)
	if p == nil {
		return modelLookup{}, false
	}
	l := modelLookup{record: p[2], signed: p[3]}
	fmt.Sscan(p[1], &l.id)
	lines, ok := modelRecord(p[2])
	l.lines = lines
	return l, ok && l.id < api.MaxRecords
}

// modelClient is the client, as this reading has it.
type modelClient struct {
	fetch func(url string) ([]byte, api.Errno)
	key   note.Key
	head  note.Head
	// proved is what the last Lookup that answered lines has proved.
	proved modelProved
}

// modelProved is a record, its number, the head under which it is, and the note
// that said so.
type modelProved struct {
	id     int
	record string
	head   note.Head
	signed string
}

// modelVisit is one call of the client.
type modelVisit struct {
	c     *modelClient
	tiles map[string]string
}

func (c *modelClient) visit() *modelVisit { return &modelVisit{c, map[string]string{}} }

// tree is the hash of a whole tree of a log of that size.
func (v *modelVisit) tree(size int, tree modelTree) (string, api.Errno) {
	url, width, place := modelTile(size, tree)
	text, there := v.tiles[url]
	if !there {
		b, e := v.c.fetch(url)
		if e != api.OK {
			return "", e
		}
		if len(b) != 32*width {
			return "", api.ErrReply
		}
		text = string(b)
		v.tiles[url] = text
	}
	if tree.level%2 == 1 {
		return modelNode(text[32*place:32*place+32], text[32*place+32:32*place+64]), api.OK
	}
	return text[32*place : 32*place+32], api.OK
}

// proof is the hashes of the records that a proof needs.
func (v *modelVisit) proof(size int, needs []reach) ([]string, api.Errno) {
	var proof []string
	for _, r := range needs {
		var hashes []string
		for _, tree := range treesOf(r) {
			hash, e := v.tree(size, tree)
			if e != api.OK {
				return nil, e
			}
			hashes = append(hashes, hash)
		}
		made := hashes[len(hashes)-1]
		for i := len(hashes) - 2; i >= 0; i-- {
			made = modelNode(hashes[i], made)
		}
		proof = append(proof, made)
	}
	return proof, api.OK
}

// isModelHead tells whether a head may be a log's.
func isModelHead(h note.Head) bool {
	return h.Size >= 0 && h.Size <= 1<<20 && len(h.Root) == 32 && (h.Size != 0 || string(h.Root) == modelRoot(nil))
}

// grows tells whether one head goes on from another one.
func (v *modelVisit) grows(old, h note.Head) api.Errno {
	var needs []reach
	if old.Size > 0 {
		needs = growthOf(old.Size, 0, h.Size, true)
	}
	proof, e := v.proof(h.Size, needs)
	if e != api.OK {
		return e
	}
	if !provesGrowth(proof, old.Size, h.Size, string(old.Root), string(h.Root)) {
		return api.ErrFork
	}
	return api.OK
}

func (v *modelVisit) take(h note.Head) api.Errno {
	switch {
	case !isModelHead(h):
		return api.ErrForm
	case h.Size == v.c.head.Size && string(h.Root) != string(v.c.head.Root):
		return api.ErrFork
	case h.Size < v.c.head.Size:
		return v.grows(h, v.c.head)
	case h.Size > v.c.head.Size:
		if e := v.grows(v.c.head, h); e != api.OK {
			return e
		}
		v.c.head = h
	}
	return api.OK
}

func (v *modelVisit) comes(signed string) (note.Head, api.Errno) {
	opened, e := note.Open(signed, []note.Key{v.c.key})
	if e != api.OK {
		return note.Head{}, api.ErrSign
	}
	h, e := note.ParseHead(opened.Text)
	if e != api.OK {
		return note.Head{}, api.ErrReply
	}
	if e := v.take(h); e != api.OK {
		return note.Head{}, e
	}
	return h, api.OK
}

func (c *modelClient) take(h note.Head) api.Errno { return c.visit().take(h) }

func (c *modelClient) latest() (note.Head, api.Errno) {
	b, e := c.fetch("/latest")
	if e != api.OK {
		return note.Head{}, e
	}
	return c.visit().comes(string(b))
}

func (c *modelClient) lookup(m api.Mod) ([]sumfile.Line, api.Errno) {
	if e := mod.Check(m); e != api.OK {
		return nil, e
	}
	b, e := c.fetch(modelURL(m))
	if e != api.OK {
		return nil, e
	}
	l, ok := readModelLookup(string(b))
	if !ok || l.lines[0].Mod != m {
		return nil, api.ErrReply
	}
	v := c.visit()
	h, e := v.comes(l.signed)
	if e != api.OK {
		return nil, e
	}
	if l.id >= h.Size {
		return nil, api.ErrRange
	}
	proof, e := v.proof(h.Size, pathOf(l.id, 0, h.Size))
	if e != api.OK {
		return nil, e
	}
	if !provesRecord(proof, l.id, h.Size, modelLeaf(l.record), string(h.Root)) {
		return nil, api.ErrProof
	}
	c.proved = modelProved{l.id, l.record, h, l.signed}
	return l.lines, api.OK
}
