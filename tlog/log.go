package tlog

import (
	"bytes"

	"mews/api"
)

// Log is records in a row: their hashes, in the stored order.
type Log struct {
	size   int
	hashes [][hashSize]byte
}

// New makes a log without records.
func New() *Log { return &Log{} }

// Append lays a record at its end.
func (l *Log) Append(data []byte) (int, api.Errno) {
	if l.size == api.MaxRecords {
		return 0, api.ErrMany
	}
	number := l.size
	hash := Leaf(data)
	l.store(hash)
	// Where a tree's number is odd, it ends the tree above it, too.
	for level := 0; number>>level&1 == 1; level++ {
		left := l.at(level, number>>level-1)
		hash = Node(left, hash)
		l.store(hash)
	}
	l.size++
	return number, api.OK
}

// store lays a hash behind those that are stored.
func (l *Log) store(hash []byte) {
	l.hashes = append(l.hashes, [hashSize]byte(hash))
}

// at is the hash of a whole tree that is stored, in memory of the log's own.
func (l *Log) at(level, k int) []byte {
	return l.hashes[place(level, k)][:]
}

// Size tells how many records there are.
func (l *Log) Size() int { return l.size }

// Hash is the hash of a whole tree.
func (l *Log) Hash(level, k int) ([]byte, api.Errno) {
	if !isTree(level, k, l.size) {
		return nil, api.ErrRange
	}
	return bytes.Clone(l.at(level, k)), api.OK
}

// Root is the hash of the first records.
func (l *Log) Root(n int) ([]byte, api.Errno) {
	if n > l.size {
		return nil, api.ErrRange
	}
	return Root(n, l.Hash)
}

// Prove proves that a record is in it.
func (l *Log) Prove(i, n int) ([][]byte, api.Errno) {
	if n > l.size {
		return nil, api.ErrRange
	}
	return Prove(i, n, l.Hash)
}

// ProveTree proves that it goes on.
func (l *Log) ProveTree(m, n int) ([][]byte, api.Errno) {
	if n > l.size {
		return nil, api.ErrRange
	}
	return ProveTree(m, n, l.Hash)
}
