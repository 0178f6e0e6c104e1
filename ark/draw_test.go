package ark_test

import (
	"fmt"
	"math/rand"
	"slices"
	"strings"

	"mews/api"
)

// draw is one of them by chance.
func draw[T any](chance *rand.Rand, all ...T) T { return all[chance.Intn(len(all))] }

// texts is all of up to so many of the signs.
func texts(signs string, most int) []string {
	all, last := []string{""}, []string{""}
	for range most {
		var next []string
		for _, s := range last {
			for i := range len(signs) {
				next = append(next, s+signs[i:i+1])
			}
		}
		all, last = append(all, next...), next
	}
	return all
}

// shuffled is the list in another order.
func shuffled[T any](chance *rand.Rand, list []T) []T {
	mixed := slices.Clone(list)
	chance.Shuffle(len(mixed), func(i, k int) { mixed[i], mixed[k] = mixed[k], mixed[i] })
	return mixed
}

// drawBytes is up to so many bytes.
func drawBytes(chance *rand.Rand, most int) []byte {
	b := make([]byte, chance.Intn(most+1))
	chance.Read(b)
	return b
}

// drawName is a name that may be.
func drawName(chance *rand.Rand) string {
	var elements []string
	for range 1 + chance.Intn(4) {
		elements = append(elements, draw(chance, "a", "b", "A", "c d", "go.mod", "x.go", "a.b", "...", "c@v1.0.0", "~", "!", "PK", fmt.Sprint(chance.Intn(50))))
	}
	return strings.Join(elements, "/")
}

// drawData is bytes, now and then some that look like a part of an archive.
func drawData(chance *rand.Rand) []byte {
	switch chance.Intn(6) {
	case 0:
		return nil
	case 1:
		return []byte(draw(chance, "PK\x03\x04", "PK\x05\x06"+strings.Repeat("\x00", 18), "PK\x01\x02", "PK"))
	case 2:
		return headed(file("inner", "text"))
	}
	return drawBytes(chance, 200)
}

// drawFiles is files that may be in one archive, in any order.
func drawFiles(chance *rand.Rand, most int) []api.File {
	var files []api.File
	for range chance.Intn(most + 1) {
		name := drawName(chance)
		if !slices.ContainsFunc(files, func(f api.File) bool { return strings.EqualFold(f.Name, name) }) {
			files = append(files, api.File{Name: name, Data: drawData(chance)})
		}
	}
	return files
}

// drawLoose is files of which some may have wrong names, or names twice.
func drawLoose(chance *rand.Rand, most int) []api.File {
	files := drawFiles(chance, most)
	for range chance.Intn(3) {
		wrong := draw(chance, "", "..", "a/", "/a", "a//b", " a", "a ", "a:b", "\x7f", "\xc3\xa9", strings.Repeat("n", 201))
		files = append(files, api.File{Name: wrong, Data: drawData(chance)})
	}
	for range chance.Intn(3) {
		if len(files) > 0 {
			twin := draw(chance, files...)
			files = append(files, file(draw(chance, twin.Name, strings.ToUpper(twin.Name), strings.ToLower(twin.Name)), "twin"))
		}
	}
	return shuffled(chance, files)
}

// spoilt is bytes with some change.
func spoilt(chance *rand.Rand, b []byte) []byte {
	b = slices.Clone(b)
	for range 1 + chance.Intn(2) {
		at := chance.Intn(len(b) + 1)
		to := at + chance.Intn(len(b)+1-at)
		switch chance.Intn(6) {
		case 0:
			b = b[:at]
		case 1:
			b = slices.Delete(b, at, to)
		case 2:
			b = slices.Insert(b, at, b[at:to]...)
		case 3:
			b = slices.Insert(b, at, drawBytes(chance, 3)...)
		default:
			if at < len(b) {
				b[at] = draw(chance, byte(chance.Intn(256)), b[at]^0x20, b[at]+1, 0, 0xff)
			}
		}
	}
	return b
}
