package tlog_test

import (
	"bytes"
	"fmt"
	"math/rand"
	"slices"
	"testing"

	"mews/api"
	"mews/tlog"
)

// lengths is texts that are no hashes: too short, too long, with the hash ahead.
func lengths(hash []byte) [][]byte {
	return [][]byte{nil, {}, hash[:1], hash[:31], append(slices.Clip(hash), 0), append(slices.Clip(hash), hash...)}
}

// wrongProofs is proofs of other numbers of hashes, or with hashes of other
// lengths, or in another order.
func wrongProofs(proof [][]byte) [][][]byte {
	extra := modelLeaf([]byte("extra"))
	list := [][][]byte{append(slices.Clip(proof), extra), slices.Insert(slices.Clone(proof), 0, extra), append(slices.Clip(proof), extra, extra)}
	list = append(list, append(slices.Clip(proof), nil), slices.Insert(slices.Clone(proof), 0, []byte{}))
	for k, hash := range proof {
		list = append(list, slices.Delete(slices.Clone(proof), k, k+1))
		list = append(list, slices.Insert(slices.Clone(proof), k, hash))
		for _, other := range lengths(hash) {
			list = append(list, with(proof, k, other))
		}
		if k > 0 {
			list = append(list, with(with(proof, k, proof[k-1]), k-1, hash))
		}
	}
	if len(proof) > 0 {
		list = append(list, nil)
	}
	if len(proof) > 1 {
		// The bytes of all hashes in one are no proof.
		list = append(list, [][]byte{slices.Concat(proof...)})
	}
	return list
}

func TestP7_3_CheckRecord(t *testing.T) {
	all := records(20)
	for n := 1; n <= 20; n++ {
		root := modelHash(all[:n])
		for i := range n {
			proof, leaf := modelPath(i, all[:n]), modelLeaf(all[i])
			check := func(what string, proof [][]byte, leaf, root []byte, want api.Errno) {
				is(t, fmt.Sprintf("CheckRecord of %d in %d, %s", i, n, what), tlog.CheckRecord(proof, i, n, leaf, root), want)
			}
			check("as it is", proof, leaf, root, api.OK)
			for k, wrong := range wrongProofs(proof) {
				check(fmt.Sprint("wrong proof ", k), wrong, leaf, root, api.ErrProof)
			}
			for _, other := range lengths(leaf) {
				check("another length of leaf", proof, other, root, api.ErrProof)
			}
			for _, other := range lengths(root) {
				check("another length of root", proof, leaf, other, api.ErrProof)
			}
			if n == 1 {
				for _, other := range lengths(root) {
					check("the same other length of both", proof, other, other, api.ErrProof)
				}
			}
			for _, number := range []int{-1, n, n + 1} {
				is(t, "CheckRecord of a number that is none", tlog.CheckRecord(proof, number, n, leaf, root), api.ErrRange)
			}
		}
	}
}

func TestP7_3_CheckTree(t *testing.T) {
	all := records(20)
	for n := 2; n <= 20; n++ {
		root := modelHash(all[:n])
		for m := 1; m < n; m++ {
			proof, old := modelGrowth(m, all[:n]), modelHash(all[:m])
			check := func(what string, proof [][]byte, old, root []byte, want api.Errno) {
				is(t, fmt.Sprintf("CheckTree of %d in %d, %s", m, n, what), tlog.CheckTree(proof, m, n, old, root), want)
			}
			check("as it is", proof, old, root, api.OK)
			for k, wrong := range wrongProofs(proof) {
				check(fmt.Sprint("wrong proof ", k), wrong, old, root, api.ErrProof)
			}
			for _, other := range lengths(old) {
				check("another length of old", proof, other, root, api.ErrProof)
			}
			for _, other := range lengths(root) {
				check("another length of root", proof, old, other, api.ErrProof)
			}
			check("no proof, old is root", nil, root, root, api.ErrProof)
			check("old and root turned round", proof, root, old, api.ErrProof)
		}
	}
}

// Roots that are made of texts that are no hashes: the lengths are looked at,
// not only what comes out.
func TestP7_3_LengthsThatFit(t *testing.T) {
	hash := modelLeaf(nil)
	for _, other := range lengths(hash) {
		is(t, "CheckRecord of such a leaf", tlog.CheckRecord([][]byte{hash}, 0, 2, other, modelNode(other, hash)), api.ErrProof)
		is(t, "CheckRecord of such a leaf", tlog.CheckRecord([][]byte{hash}, 1, 2, other, modelNode(hash, other)), api.ErrProof)
		is(t, "CheckRecord of such a proof", tlog.CheckRecord([][]byte{other}, 0, 2, hash, modelNode(hash, other)), api.ErrProof)
		is(t, "CheckRecord of such a proof", tlog.CheckRecord([][]byte{other}, 1, 2, hash, modelNode(other, hash)), api.ErrProof)
		is(t, "CheckRecord of such a proof", tlog.CheckRecord([][]byte{hash, other}, 2, 4, hash, modelNode(other, modelNode(hash, hash))), api.ErrProof)
		is(t, "CheckTree of such an old root", tlog.CheckTree([][]byte{hash}, 1, 2, other, modelNode(other, hash)), api.ErrProof)
		is(t, "CheckTree of such a proof", tlog.CheckTree([][]byte{other}, 1, 2, hash, modelNode(hash, other)), api.ErrProof)
		left, right := modelNode(other, hash), modelNode(hash, other)
		is(t, "CheckTree of such a proof", tlog.CheckTree([][]byte{other, hash, hash}, 3, 4, right, modelNode(hash, left)), api.ErrProof)
		is(t, "CheckTree of such a proof", tlog.CheckTree([][]byte{hash, hash, other}, 3, 4, left, modelNode(other, modelNode(hash, hash))), api.ErrProof)
	}
	// The same with hashes are proofs.
	is(t, "CheckRecord", tlog.CheckRecord([][]byte{hash, hash}, 2, 4, hash, modelNode(hash, modelNode(hash, hash))), api.OK)
	is(t, "CheckTree", tlog.CheckTree([][]byte{hash, hash, hash}, 3, 4, modelNode(hash, hash), modelNode(hash, modelNode(hash, hash))), api.OK)
	// What is cut off from one hash may not be laid to the next one.
	both := slices.Concat(hash, hash)
	is(t, "CheckRecord of shifted bytes", tlog.CheckRecord([][]byte{both[31:]}, 0, 2, both[:31], modelNode(hash, hash)), api.ErrProof)
	is(t, "CheckTree of shifted bytes", tlog.CheckTree([][]byte{both[31:]}, 1, 2, both[:31], modelNode(hash, hash)), api.ErrProof)
}

// Of no records nothing is looked at but that the proof is empty.
func TestP7_3_CheckTreeOfNone(t *testing.T) {
	for _, n := range []int{0, 1, 3, api.MaxRecords} {
		for _, hash := range [][]byte{nil, []byte("a"), make([]byte, 32)} {
			for _, proof := range [][][]byte{nil, {}} {
				is(t, "CheckTree of no records", tlog.CheckTree(proof, 0, n, hash, nil), api.OK)
				is(t, "CheckTree of no records", tlog.CheckTree(proof, 0, n, nil, hash), api.OK)
			}
			for _, proof := range [][][]byte{{nil}, {hash}, {hash, hash}} {
				is(t, "CheckTree of no records with a proof", tlog.CheckTree(proof, 0, n, hash, hash), api.ErrProof)
			}
		}
	}
}

// Of the same log old is root, whatever they are.
func TestP7_3_CheckTreeOfAll(t *testing.T) {
	for _, n := range []int{1, 2, 3, api.MaxRecords} {
		for _, hash := range [][]byte{nil, {}, []byte("a"), make([]byte, 31), make([]byte, 32), make([]byte, 33)} {
			is(t, "CheckTree of all records", tlog.CheckTree(nil, n, n, hash, bytes.Clone(hash)), api.OK)
			is(t, "CheckTree of all records, old another one", tlog.CheckTree(nil, n, n, append(slices.Clip(hash), 1), hash), api.ErrProof)
			is(t, "CheckTree of all records, root another one", tlog.CheckTree([][]byte{}, n, n, hash, append(slices.Clip(hash), 1)), api.ErrProof)
			is(t, "CheckTree of all records with a proof", tlog.CheckTree([][]byte{nil}, n, n, hash, hash), api.ErrProof)
			is(t, "CheckTree of all records with a proof", tlog.CheckTree([][]byte{hash}, n, n, hash, hash), api.ErrProof)
		}
	}
	is(t, "CheckTree of turned bytes", tlog.CheckTree(nil, 3, 3, make([]byte, 32), turned(make([]byte, 32), 31)), api.ErrProof)
}

// ErrRange comes ahead of ErrProof.
func TestP7_3_Range(t *testing.T) {
	hash := make([]byte, 32)
	for _, n := range edges() {
		for _, i := range append(edges(), n-1, n, n+1) {
			for _, proof := range [][][]byte{nil, {nil}, {hash}, slices.Repeat([][]byte{hash}, 25)} {
				for _, other := range [][]byte{nil, hash} {
					e := tlog.CheckRecord(proof, i, n, hash, other)
					is(t, fmt.Sprint("CheckRecord ", i, " ", n), e == api.ErrRange, n < 1 || n > api.MaxRecords || i < 0 || i >= n)
					e = tlog.CheckTree(proof, i, n, hash, other)
					is(t, fmt.Sprint("CheckTree ", i, " ", n), e == api.ErrRange, n < 0 || n > api.MaxRecords || i < 0 || i > n)
				}
			}
		}
	}
}

// A proof of one thing is none of another one: the checks are those that go
// from the leaf up.
func TestP7_3_OtherNumbers(t *testing.T) {
	all := records(12)
	for n := 1; n <= 12; n++ {
		for i := range n {
			path, growth := modelPath(i, all[:n]), modelGrowth(i, all[:n])
			leaf, old, root := modelLeaf(all[i]), modelHash(all[:i]), modelHash(all[:n])
			for otherN := -1; otherN <= 14; otherN++ {
				for otherI := -1; otherI <= 14; otherI++ {
					what := fmt.Sprintf("of %d in %d as %d in %d", i, n, otherI, otherN)
					is(t, "CheckRecord "+what, tlog.CheckRecord(path, otherI, otherN, leaf, root), modelCheckRecord(path, otherI, otherN, leaf, root))
					is(t, "CheckTree "+what, tlog.CheckTree(growth, otherI, otherN, old, root), modelCheckTree(growth, otherI, otherN, old, root))
				}
			}
		}
	}
}

// Proofs in the greatest logs, some of them spoilt.
func TestP7_3_Great(t *testing.T) {
	chance := rand.New(rand.NewSource(73))
	read := (&asker{fails: -1}).read
	good := 0
	for range 1500 {
		n := 1 + chance.Intn(api.MaxRecords)
		i := chance.Intn(n)
		path, _ := tlog.Prove(i, n, read)
		growth, _ := tlog.ProveTree(i, n, read)
		leaf, old, root := drawnHash(0, i), sum(), modelFold(modelTrees(0, n))
		if i > 0 {
			old = modelFold(modelTrees(0, i))
		}
		path, growth = spoiltProof(chance, path), spoiltProof(chance, growth)
		what := fmt.Sprint(i, " in ", n)
		want := modelCheckTree(growth, i, n, old, root)
		is(t, "CheckTree of "+what, tlog.CheckTree(growth, i, n, old, root), want)
		if want == api.OK {
			good++
		}
		// Trees are drawn, so a leaf and its path make another root.
		if made, ok := climbed(path, i, n, leaf); ok {
			is(t, "CheckRecord of "+what, tlog.CheckRecord(path, i, n, leaf, made), api.OK)
			is(t, "CheckRecord of "+what+" with another root", tlog.CheckRecord(path, i, n, leaf, turned(made, 0)), api.ErrProof)
			good++
		} else {
			is(t, "CheckRecord of "+what, tlog.CheckRecord(path, i, n, leaf, root), api.ErrProof)
		}
	}
	is(t, fmt.Sprint("whether there were enough: ", good), good > 500, true)
}

// spoiltProof is the proof as it is, or now and then with a fault in it.
func spoiltProof(chance *rand.Rand, proof [][]byte) [][]byte {
	if wrong := wrongProofs(proof); chance.Intn(2) == 0 {
		return wrong[chance.Intn(len(wrong))]
	}
	return proof
}

// climbed is the root that a leaf and its path make, by the records of the
// path's hashes; false, if they are not as many, or not of 32 bytes.
func climbed(path [][]byte, i, n int, leaf []byte) ([]byte, bool) {
	parts := modelPathParts(i, n)
	if len(parts) != len(path) {
		return nil, false
	}
	hash := leaf
	for k, part := range parts {
		if len(path[k]) != 32 {
			return nil, false
		}
		if part.a > i {
			hash = modelNode(hash, path[k])
		} else {
			hash = modelNode(path[k], hash)
		}
	}
	return hash, true
}
