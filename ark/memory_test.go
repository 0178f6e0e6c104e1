package ark_test

import (
	"bytes"
	"fmt"
	"slices"
	"testing"

	"mews/api"
	"mews/ark"
)

// The marks that lie behind lists, and that are written into answers.
const (
	roomByte   = 0xa5
	spoiltByte = 0x5a
)

// roomy is the list with spare room behind it, filled with a mark.
func roomy[T any](list []T, mark T) []T {
	whole := slices.Clone(list)
	for range 100 {
		whole = append(whole, mark)
	}
	return whole[:len(list)]
}

// whole is the list with what lies behind it.
func whole[T any](list []T) []T { return list[:cap(list)] }

// spoil writes into all the memory of a list.
func spoil[T any](list []T, mark T) {
	for i := range whole(list) {
		whole(list)[i] = mark
	}
}

// roomyFiles is the files with room behind them, and behind the bytes of each.
func roomyFiles(files []api.File) []api.File {
	files = roomy(files, file("room", "room"))
	for i := range files {
		files[i].Data = roomy(files[i].Data, roomByte)
	}
	return files
}

// copied is the files in memory of its own, with what lies behind the list and
// behind the bytes of each.
func copied(files []api.File) []api.File {
	all := slices.Clone(whole(files))
	for i := range all {
		all[i].Data = bytes.Clone(whole(all[i].Data))
	}
	return all
}

// spoilFiles writes into all the memory of files.
func spoilFiles(files []api.File) {
	for i := range whole(files) {
		spoil(whole(files)[i].Data, spoiltByte)
	}
	spoil(files, file("spoilt", "spoilt"))
}

// lists is files of many kinds, some that Pack refuses.
func lists() [][]api.File {
	return [][]api.File{
		nil,
		{file("a", "")},
		{file("a", "text")},
		some(),
		{file("c", "3"), file("b", "2"), file("a", "1")},
		{file("c", "3"), file("a", ""), file("b", string(bytes.Repeat([]byte("long "), 100)))},
		many(100),
		many(101),
		named("x", "..", "a"),
		named("z", "a", "Z"),
		{file("b", string(make([]byte, api.MaxArchive))), file("a", "")},
	}
}

func TestP6_7_BytesHandedIn(t *testing.T) {
	archive := laid(some()...)
	for _, given := range [][]byte{nil, {0}, []byte("abc"), make([]byte, 55), make([]byte, 56), make([]byte, 63), make([]byte, 64), make([]byte, 65), make([]byte, 127), archive, archive[:40], changed(archive, 14, 1)} {
		b := roomy(given, roomByte)
		before := bytes.Clone(whole(b))
		isBytes(t, "SHA256, whatever lies behind", ark.SHA256(b), ark.SHA256(slices.Clip(given)))
		is(t, "CRC, whatever lies behind", ark.CRC(b), ark.CRC(slices.Clip(given)))
		is(t, "Hex, whatever lies behind", ark.Hex(b), ark.Hex(slices.Clip(given)))
		is(t, "Base64, whatever lies behind", ark.Base64(b), ark.Base64(slices.Clip(given)))
		is(t, "ManifestSum, whatever lies behind", ark.ManifestSum(b), ark.ManifestSum(slices.Clip(given)))
		files, e := ark.Unpack(b)
		want, wantE := modelUnpack(slices.Clip(given))
		is(t, "Unpack's error, whatever lies behind", e, wantE)
		areFiles(t, "Unpack, whatever lies behind", files, want)
		isBytes(t, "what was handed in", whole(b), before)
		spoilFiles(files)
		isBytes(t, "what was handed in, the answer spoilt", whole(b), before)
	}
}

func TestP6_7_FilesHandedIn(t *testing.T) {
	m := module("a.b/c v1.0.0")
	for _, given := range lists() {
		files, added := roomyFiles(given), roomyFiles(ark.Add(given, m))
		before, addedBefore := copied(files), copied(added)

		b, e := ark.Pack(files)
		want, wantE := modelPack(given)
		is(t, "Pack's error, whatever lies behind", e, wantE)
		isBytes(t, "Pack, whatever lies behind", b, want)
		spoil(b, spoiltByte)

		sum, e := ark.H1(files)
		is(t, "H1's error, whatever lies behind", e, modelNames(given))
		if e == api.OK {
			is(t, "H1, whatever lies behind", sum, modelSum(given))
		}

		spoilFiles(ark.Add(files, m))
		stripped, e := ark.Strip(added, m)
		is(t, "Strip's error", e, api.OK)
		areFiles(t, "Strip, whatever lies behind", stripped, given)
		spoilFiles(stripped)
		_, e = ark.Strip(append(slices.Clip(added), file("x", "")), m)
		is(t, "Strip's error", e, api.ErrName)

		areFiles(t, "the files that were handed in", copied(files), before)
		areFiles(t, "the files that were handed in with prefixes", copied(added), addedBefore)
	}
}

// What is written into what was handed in later on doesn't show in an answer.
func TestP6_7_NothingIsKept(t *testing.T) {
	m := module("a.b/c v1.0.0")
	for _, given := range lists()[:7] {
		want := modelRising(given)
		b := packed(t, given...)
		archive := bytes.Clone(b)
		unpacked, _ := ark.Unpack(archive)
		spoil(archive, spoiltByte)
		areFiles(t, "what was unpacked", unpacked, want)

		files := roomyFiles(given)
		again := packed(t, files...)
		added := ark.Add(files, m)
		spoilFiles(files)
		isBytes(t, "what was packed", again, b)
		areFiles(t, "what was added to", added, ark.Add(given, m))

		stripped, _ := ark.Strip(added, m)
		spoilFiles(added)
		areFiles(t, "what was stripped", stripped, given)
	}
}

func TestP6_7_BytesHandedOut(t *testing.T) {
	calls := map[string]func() []byte{
		"SHA256 of nothing":     func() []byte { return ark.SHA256(nil) },
		"SHA256":                func() []byte { return ark.SHA256([]byte("abc")) },
		"SHA256 of a block":     func() []byte { return ark.SHA256(make([]byte, 64)) },
		"FromBase64 of nothing": func() []byte { b, _ := ark.FromBase64(""); return b },
		"FromBase64":            func() []byte { b, _ := ark.FromBase64("YWI="); return b },
		"a wrong FromBase64":    func() []byte { b, _ := ark.FromBase64("YWJ="); return b },
		"Pack of none":          func() []byte { b, _ := ark.Pack(nil); return b },
		"Pack":                  func() []byte { b, _ := ark.Pack(some()); return b },
		"a wrong Pack":          func() []byte { b, _ := ark.Pack(named("a", "a")); return b },
	}
	for name, call := range calls {
		first := call()
		want := bytes.Clone(first)
		second := call()
		wantWhole := bytes.Clone(whole(second))
		spoil(first, spoiltByte)
		isBytes(t, name+", another answer", whole(second), wantWhole)
		isBytes(t, name+", asked again", call(), want)
	}
}

func TestP6_7_FilesHandedOut(t *testing.T) {
	m := module("a.b/c v1.0.0")
	for i, given := range lists() {
		b, _ := ark.Pack(given)
		added := ark.Add(given, m)
		calls := map[string]func() []api.File{
			"Unpack": func() []api.File { files, _ := ark.Unpack(b); return files },
			"Add":    func() []api.File { return ark.Add(given, m) },
			"Strip":  func() []api.File { files, _ := ark.Strip(added, m); return files },
		}
		for name, call := range calls {
			name = fmt.Sprint(name, " of list ", i)
			first, second := call(), call()
			want := copied(second)
			for k := range first {
				others := slices.Delete(copied(first)[:len(first)], k, k+1)
				spoil(first[k].Data, spoiltByte)
				_ = append(first[k].Data, spoiltByte, spoiltByte)
				areFiles(t, name+", the others of the same answer", slices.Delete(copied(first)[:len(first)], k, k+1), others)
			}
			spoilFiles(first)
			areFiles(t, name+", another answer", copied(second), want)
			areFiles(t, name+", asked again", call(), second)
		}
	}
}

// Files that share their memory are handed out apart.
func TestP6_7_FilesThatShare(t *testing.T) {
	shared := []byte("shared bytes")
	files := []api.File{{Name: "@/a", Data: shared}, {Name: "@/b", Data: shared}, {Name: "@/c", Data: shared[:6]}, {Name: "@/d", Data: shared[6:]}}
	stripped, _ := ark.Strip(files, api.Mod{})
	unpacked, _ := ark.Unpack(packed(t, files...))
	for _, answer := range [][]api.File{ark.Add(files, api.Mod{}), stripped, unpacked} {
		spoil(answer[0].Data, spoiltByte)
		is(t, "the second one", string(answer[1].Data), "shared bytes")
		is(t, "the third one", string(answer[2].Data), "shared")
		is(t, "the fourth one", string(answer[3].Data), " bytes")
	}
	is(t, "what was handed in", string(shared), "shared bytes")
}
