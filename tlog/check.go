package tlog

import (
	"bytes"

	"mews/api"
)

// CheckRecord checks the one proof.
func CheckRecord(proof [][]byte, i, n int, leaf, root []byte) api.Errno {
	if !isRecord(i, n) {
		return api.ErrRange
	}
	if !areHashes(proof...) || !areHashes(leaf, root) {
		return api.ErrProof
	}
	made, ok := rootBy(proof, i, n, leaf)
	if !ok || !bytes.Equal(made, root) {
		return api.ErrProof
	}
	return api.OK
}

// CheckTree checks the other one.
func CheckTree(proof [][]byte, m, n int, old, root []byte) api.Errno {
	if !isPart(m, n) {
		return api.ErrRange
	}
	if goesOn(proof, m, n, old, root) {
		return api.OK
	}
	return api.ErrProof
}

// goesOn tells whether the proof shows that the n records go on from m.
func goesOn(proof [][]byte, m, n int, old, root []byte) bool {
	switch m {
	case 0:
		return len(proof) == 0
	case n:
		return len(proof) == 0 && bytes.Equal(old, root)
	}
	if !areHashes(proof...) || !areHashes(old, root) {
		return false
	}
	was, is, ok := rootsBy(proof, m, n, true, old)
	return ok && bytes.Equal(was, old) && bytes.Equal(is, root)
}

// areHashes tells whether each has as many bytes as a hash.
func areHashes(list ...[]byte) bool {
	for _, hash := range list {
		if len(hash) != hashSize {
			return false
		}
	}
	return true
}

// rootBy is the hash of n records that a leaf and its path make; false, if the
// path has not just as many hashes as it takes.
func rootBy(proof [][]byte, i, n int, leaf []byte) ([]byte, bool) {
	if n == 1 {
		return leaf, len(proof) == 0
	}
	if len(proof) == 0 {
		return nil, false
	}
	proof, last := apart(proof)
	half := firstHalf(n)
	if i < half {
		left, ok := rootBy(proof, i, half, leaf)
		return Node(left, last), ok
	}
	right, ok := rootBy(proof, i-half, n-half, leaf)
	return Node(last, right), ok
}

// rootsBy is the hashes of the first m and of all n records that a proof makes;
// false, if it has not just as many hashes as it takes. Where whole holds, the
// m records are the old log, whose hash the proof leaves out.
func rootsBy(proof [][]byte, m, n int, whole bool, old []byte) (was, is []byte, ok bool) {
	if m == n && whole {
		return old, old, len(proof) == 0
	}
	if len(proof) == 0 {
		return nil, nil, false
	}
	proof, last := apart(proof)
	if m == n {
		return last, last, len(proof) == 0
	}
	half := firstHalf(n)
	if m <= half {
		was, is, ok = rootsBy(proof, m, half, whole, old)
		return was, Node(is, last), ok
	}
	was, is, ok = rootsBy(proof, m-half, n-half, false, old)
	return Node(last, was), Node(last, is), ok
}

// apart is all hashes but the last one, and that one.
func apart(proof [][]byte) ([][]byte, []byte) {
	end := len(proof) - 1
	return proof[:end], proof[end]
}
