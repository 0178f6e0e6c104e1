package tlog

import (
	"bytes"
	"math/bits"

	"mews/api"
	"mews/ark"
)

// Read tells the hash of a whole tree.
type Read func(level, k int) ([]byte, api.Errno)

// Root is the hash of the first records.
func Root(n int, read Read) ([]byte, api.Errno) {
	if !isSize(n) {
		return nil, api.ErrRange
	}
	if n == 0 {
		return ark.SHA256(nil), api.OK
	}
	return span{0, n}.hash(copying(read))
}

// Prove proves that a record is in a log.
func Prove(i, n int, read Read) ([][]byte, api.Errno) {
	if !isRecord(i, n) {
		return nil, api.ErrRange
	}
	return span{0, n}.path(i, copying(read))
}

// ProveTree proves that a log goes on.
func ProveTree(m, n int, read Read) ([][]byte, api.Errno) {
	if !isPart(m, n) {
		return nil, api.ErrRange
	}
	if m == 0 {
		return nil, api.OK
	}
	return span{0, n}.growth(m, true, copying(read))
}

// isRecord tells whether there is a record i in a log of n records.
func isRecord(i, n int) bool { return isSize(n) && 0 <= i && i < n }

// isPart tells whether a log of n records has first m records.
func isPart(m, n int) bool { return isSize(n) && 0 <= m && m <= n }

// copying reads into new memory: what read answers is read's own, and may be
// other bytes when it is asked again. A read that is nil knows of no tree.
func copying(read Read) Read {
	return func(level, k int) ([]byte, api.Errno) {
		if read == nil {
			return nil, api.ErrRange
		}
		hash, e := read(level, k)
		if e != api.OK {
			return nil, e
		}
		return bytes.Clone(hash), api.OK
	}
}

// span is some records in a row, one at least. It is a log or one of the halves
// of a span, so its first record's number is a multiple of each power of two up
// to its count: if its count is such a power, it is a whole tree.
type span struct{ first, count int }

// firstHalf is the greatest power of two that is less than count.
func firstHalf(count int) int { return 1 << (bits.Len(uint(count-1)) - 1) }

// halves is the first ones and the rest of more than one record.
func (s span) halves() (span, span) {
	half := firstHalf(s.count)
	return span{s.first, half}, span{s.first + half, s.count - half}
}

// hash is the hash of the records.
func (s span) hash(read Read) ([]byte, api.Errno) {
	if s.count&(s.count-1) == 0 {
		level := bits.TrailingZeros(uint(s.count))
		return read(level, s.first>>level)
	}
	a, b := s.halves()
	left, e := a.hash(read)
	if e != api.OK {
		return nil, e
	}
	right, e := b.hash(read)
	if e != api.OK {
		return nil, e
	}
	return Node(left, right), api.OK
}

// path is the audit path of the record i of them.
func (s span) path(i int, read Read) ([][]byte, api.Errno) {
	if s.count == 1 {
		return nil, api.OK
	}
	a, b := s.halves()
	if i < a.count {
		proof, e := a.path(i, read)
		return b.behind(proof, e, read)
	}
	proof, e := b.path(i-a.count, read)
	return a.behind(proof, e, read)
}

// growth is the proof that they go on from the first m of them: SUBPROOF.
func (s span) growth(m int, whole bool, read Read) ([][]byte, api.Errno) {
	if m == s.count {
		if whole {
			return nil, api.OK
		}
		return s.behind(nil, api.OK, read)
	}
	a, b := s.halves()
	if m <= a.count {
		proof, e := a.growth(m, whole, read)
		return b.behind(proof, e, read)
	}
	proof, e := b.growth(m-a.count, false, read)
	return a.behind(proof, e, read)
}

// behind is the proof with the hash of the records behind it. It asks nothing
// behind an error, so that the first one in the proof's order goes up.
func (s span) behind(proof [][]byte, e api.Errno, read Read) ([][]byte, api.Errno) {
	if e != api.OK {
		return nil, e
	}
	hash, e := s.hash(read)
	if e != api.OK {
		return nil, e
	}
	return append(proof, hash), api.OK
}
