package tlog_test

import (
	"bytes"
	"crypto/sha256"
	"fmt"
	"math/big"
	"math/bits"
	"regexp"
	"strconv"
	"strings"

	"mews/api"
	"mews/tlog"
)

func sum(parts ...[]byte) []byte {
	hash := sha256.Sum256(bytes.Join(parts, nil))
	return hash[:]
}

func modelLeaf(data []byte) []byte        { return sum([]byte{0}, data) }
func modelNode(left, right []byte) []byte { return sum([]byte{1}, left, right) }

// modelHalf is the greatest power of two that is less than n.
func modelHalf(n int) int {
	half := 1
	for 2*half < n {
		half *= 2
	}
	return half
}

// modelHash is the hash of records.
func modelHash(records [][]byte) []byte {
	switch len(records) {
	case 0:
		return sum()
	case 1:
		return modelLeaf(records[0])
	}
	half := modelHalf(len(records))
	return modelNode(modelHash(records[:half]), modelHash(records[half:]))
}

// modelTree is the hash of a whole tree.
func modelTree(records [][]byte, level, k int) []byte {
	return modelHash(records[k<<level : (k+1)<<level])
}

// modelPath is PATH of RFC 6962.
func modelPath(i int, records [][]byte) [][]byte {
	if len(records) == 1 {
		return nil
	}
	half := modelHalf(len(records))
	if i < half {
		return append(modelPath(i, records[:half]), modelHash(records[half:]))
	}
	return append(modelPath(i-half, records[half:]), modelHash(records[:half]))
}

// modelGrowth is PROOF of RFC 6962, with nothing where there are no old records.
func modelGrowth(m int, records [][]byte) [][]byte {
	if m == 0 {
		return nil
	}
	return modelSubproof(m, records, true)
}

func modelSubproof(m int, records [][]byte, whole bool) [][]byte {
	if m == len(records) && whole {
		return nil
	}
	if m == len(records) {
		return [][]byte{modelHash(records)}
	}
	half := modelHalf(len(records))
	if m <= half {
		return append(modelSubproof(m, records[:half], whole), modelHash(records[half:]))
	}
	return append(modelSubproof(m-half, records[half:], false), modelHash(records[:half]))
}

// tree is a whole tree.
type tree struct{ level, k int }

// modelTrees is the whole trees that records from a to b are, each as great as
// it can be.
func modelTrees(a, b int) []tree {
	var list []tree
	for a < b {
		level := 0
		for a%(2<<level) == 0 && a+2<<level <= b {
			level++
		}
		list = append(list, tree{level, a >> level})
		a += 1 << level
	}
	return list
}

// stretch is the records from a to b.
type stretch struct{ a, b int }

// modelPathParts is the records of each hash of an audit path: from the leaf
// up, what stands beside the tree that the record is in, cut off at the end.
func modelPathParts(i, n int) []stretch {
	var parts []stretch
	for level := 0; 1<<level < n; level++ {
		beside := i>>level ^ 1
		if first := beside << level; first < n {
			parts = append(parts, stretch{first, min(first+1<<level, n)})
		}
	}
	return parts
}

// modelGrowthParts is the records of each hash of a proof of consistency: the
// last whole tree of the old records, if it is not all of them, and what stands
// beside it, up to the root.
func modelGrowthParts(m, n int) []stretch {
	if m == 0 || m == n {
		return nil
	}
	last := bits.TrailingZeros(uint(m))
	var parts []stretch
	if m != 1<<last {
		parts = append(parts, stretch{m - 1<<last, m})
	}
	for level := last; 1<<level < n; level++ {
		beside := (m-1)>>level ^ 1
		if first := beside << level; first < n {
			parts = append(parts, stretch{first, min(first+1<<level, n)})
		}
	}
	return parts
}

// modelAsked is the trees that are asked for the hashes of some records.
func modelAsked(parts []stretch) []tree {
	var asked []tree
	for _, p := range parts {
		asked = append(asked, modelTrees(p.a, p.b)...)
	}
	return asked
}

// drawnHash is a hash that only says of which tree it is.
func drawnHash(level, k int) []byte { return sum([]byte(fmt.Sprint("tree ", level, " ", k))) }

// modelFold is the hash of records by those of their whole trees.
func modelFold(trees []tree) []byte {
	last := len(trees) - 1
	hash := drawnHash(trees[last].level, trees[last].k)
	for i := last - 1; i >= 0; i-- {
		hash = modelNode(drawnHash(trees[i].level, trees[i].k), hash)
	}
	return hash
}

// modelCheckRecord goes from the leaf up, by the bits of the numbers (as
// RFC 9162 has it).
func modelCheckRecord(proof [][]byte, i, n int, leaf, root []byte) api.Errno {
	if n < 1 || n > 1<<20 || i < 0 || i >= n {
		return api.ErrRange
	}
	place, last, hash := i, n-1, leaf
	for _, h := range proof {
		if len(h) != 32 || last == 0 {
			return api.ErrProof
		}
		if place%2 == 1 || place == last {
			hash = modelNode(h, hash)
			for place%2 == 0 && place != 0 {
				place, last = place/2, last/2
			}
		} else {
			hash = modelNode(hash, h)
		}
		place, last = place/2, last/2
	}
	if last != 0 || len(leaf) != 32 || !bytes.Equal(hash, root) {
		return api.ErrProof
	}
	return api.OK
}

// modelCheckTree likewise.
func modelCheckTree(proof [][]byte, m, n int, old, root []byte) api.Errno {
	if n < 0 || n > 1<<20 || m < 0 || m > n {
		return api.ErrRange
	}
	if m == 0 || m == n {
		if len(proof) > 0 || m == n && m > 0 && !bytes.Equal(old, root) {
			return api.ErrProof
		}
		return api.OK
	}
	if m&(m-1) == 0 {
		proof = append([][]byte{old}, proof...)
	}
	if len(proof) == 0 || len(proof[0]) != 32 || len(old) != 32 {
		return api.ErrProof
	}
	place, last := m-1, n-1
	for place%2 == 1 {
		place, last = place/2, last/2
	}
	was, is := proof[0], proof[0]
	for _, h := range proof[1:] {
		if len(h) != 32 || last == 0 {
			return api.ErrProof
		}
		if place%2 == 1 || place == last {
			was, is = modelNode(h, was), modelNode(h, is)
			for place%2 == 0 && place != 0 {
				place, last = place/2, last/2
			}
		} else {
			is = modelNode(is, h)
		}
		place, last = place/2, last/2
	}
	if last != 0 || !bytes.Equal(was, old) || !bytes.Equal(is, root) {
		return api.ErrProof
	}
	return api.OK
}

// modelTiles is the tiles of a log of n records, by going through the trees.
func modelTiles(h, n int) []tlog.Tile {
	var list []tlog.Tile
	for row := 0; row*h <= 20; row++ {
		for k := 0; (k+1)<<(row*h) <= n; k++ {
			if k%(1<<h) == 0 {
				list = append(list, tlog.Tile{H: h, L: row, N: k / (1 << h)})
			}
			list[len(list)-1].W++
		}
	}
	return list
}

func large(n int) *big.Int { return big.NewInt(int64(n)) }

// shifted is n 2^by, whatever its size.
func shifted(n *big.Int, by int) *big.Int { return new(big.Int).Lsh(n, uint(by)) }

// modelIsTile tells whether t is a tile.
func modelIsTile(t tlog.Tile) bool {
	return t.H >= 1 && t.H <= 8 && t.L >= 0 && t.N >= 0 && t.W >= 1 && t.W <= 1<<t.H
}

// modelWithin tells whether t is a tile within n records: where its last tree
// ends is worked out without bounds, but for levels that are out of question.
func modelWithin(t tlog.Tile, n int) bool {
	if !modelIsTile(t) || t.L > 1000 {
		return false
	}
	end := new(big.Int).Add(shifted(large(t.N), t.H), large(t.W))
	return shifted(end, t.H*t.L).Cmp(large(n)) <= 0
}

// modelInTile works with numbers that have no bounds.
func modelInTile(t tlog.Tile, data []byte, level, k int) ([]byte, api.Errno) {
	if !modelIsTile(t) || len(data) != 32*t.W {
		return nil, api.ErrForm
	}
	above := new(big.Int).Sub(large(level), new(big.Int).Mul(large(t.H), large(t.L)))
	if above.Sign() < 0 || above.Cmp(large(t.H)) >= 0 {
		return nil, api.ErrRange
	}
	up := int(above.Int64())
	first := new(big.Int).Sub(shifted(large(k), up), shifted(large(t.N), t.H))
	end := new(big.Int).Add(first, large(1<<up))
	if first.Sign() < 0 || end.Cmp(large(t.W)) > 0 {
		return nil, api.ErrRange
	}
	var hashes [][]byte
	for i := first.Int64(); i < end.Int64(); i++ {
		hashes = append(hashes, data[32*i:32*i+32])
	}
	for len(hashes) > 1 {
		var next [][]byte
		for i := 0; i < len(hashes); i += 2 {
			next = append(next, modelNode(hashes[i], hashes[i+1]))
		}
		hashes = next
	}
	return hashes[0], api.OK
}

func modelPathOf(t tlog.Tile) (string, api.Errno) {
	if !modelWithin(t, 1<<20) {
		return "", api.ErrForm
	}
	s := fmt.Sprintf("tile/%d/%d/", t.H, t.L)
	if t.N >= 1000 {
		s += fmt.Sprintf("x%03d/", t.N/1000)
	}
	s += fmt.Sprintf("%03d", t.N%1000)
	if t.W < 1<<t.H {
		s += fmt.Sprint(".p/", t.W)
	}
	return s, api.OK
}

var modelForm = regexp.MustCompile(`^tile/([1-8])/(0|[1-9][0-9]?)/((?:x[0-9]{3}/)*[0-9]{3})(?:\.p/([1-9][0-9]{0,2}))?$`)

// modelParse goes by the form; no path within MaxRecords has three groups.
func modelParse(s string) (tlog.Tile, api.Errno) {
	found := modelForm.FindStringSubmatch(s)
	if found == nil || strings.HasSuffix(s, "\n") || strings.HasPrefix(found[3], "x000") || strings.Count(found[3], "x") > 1 {
		return tlog.Tile{}, api.ErrForm
	}
	number := func(s string) int {
		n, err := strconv.Atoi(s)
		if err != nil {
			panic(err)
		}
		return n
	}
	t := tlog.Tile{H: number(found[1]), L: number(found[2]), N: number(strings.NewReplacer("x", "", "/", "").Replace(found[3]))}
	t.W = 1 << t.H
	if found[4] != "" {
		t.W = number(found[4])
		if t.W >= 1<<t.H {
			return tlog.Tile{}, api.ErrForm
		}
	}
	if !modelWithin(t, 1<<20) {
		return tlog.Tile{}, api.ErrForm
	}
	return t, api.OK
}
