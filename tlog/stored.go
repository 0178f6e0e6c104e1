package tlog

import (
	"math/bits"
	"sort"

	"mews/api"
)

// Index is the place of a whole tree's hash.
func Index(level, k int) (int, api.Errno) {
	if !isTree(level, k, api.MaxRecords) {
		return 0, api.ErrRange
	}
	return place(level, k), api.OK
}

// Split is what stands at a place.
func Split(index int) (int, int, api.Errno) {
	if index < 0 || index >= places(api.MaxRecords) {
		return 0, 0, api.ErrRange
	}
	record := sort.Search(api.MaxRecords, func(i int) bool { return places(i+1) > index })
	level := index - places(record)
	return level, record >> level, api.OK
}

// Count tells how many hashes are stored.
func Count(n int) (int, api.Errno) {
	if !isSize(n) {
		return 0, api.ErrRange
	}
	return places(n), api.OK
}

// places is how many hashes are stored of n records. Of each level v there are
// n>>v whole trees, so a bit 2^b of n counts 2^b + .. + 2 + 1 = 2 2^b - 1 times.
func places(n int) int { return 2*n - bits.OnesCount(uint(n)) }

// place is where the hash of a whole tree stands: behind the hashes of all
// records ahead of its last one, and behind those of the trees below that end
// with that one.
func place(level, k int) int {
	last := (k+1)<<level - 1
	return places(last) + level
}
