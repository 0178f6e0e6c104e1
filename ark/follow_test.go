package ark_test

import (
	"bytes"
	"crypto/sha256"
	"fmt"
	"math/rand"
	"strings"
	"testing"

	"mews/api"
	"mews/ark"
)

func TestP6_8_ThereAndBack(t *testing.T) {
	chance := rand.New(rand.NewSource(68))
	for range 3000 {
		files := drawFiles(chance, 12)
		b := packed(t, files...)
		unpacks(t, "what was packed", b, modelRising(files))
		again, _ := ark.Unpack(b)
		packs(t, again, b)
	}
	for _, files := range [][]api.File{nil, many(100), {filling(t, "a", 1<<20)}} {
		unpacks(t, "what was packed", packed(t, files...), files)
	}
}

func TestP6_8_WhatUnpackTakes(t *testing.T) {
	chance := rand.New(rand.NewSource(680))
	taken := 0
	for range 20000 {
		b := laid(drawFiles(chance, 3)...)
		if chance.Intn(2) == 0 {
			b = spoilt(chance, b)
		}
		if files, e := ark.Unpack(b); e == api.OK {
			taken++
			packs(t, files, b)
		}
	}
	is(t, "whether there were enough", taken > 2000, true)
}

func TestP6_8_Base64ThereAndBack(t *testing.T) {
	chance := rand.New(rand.NewSource(681))
	for range 5000 {
		b := drawBytes(chance, 100)
		reads(t, ark.Base64(b), string(b))
	}
	taken := 0
	for range 50000 {
		var s strings.Builder
		for range chance.Intn(9) {
			s.WriteByte(signs[chance.Intn(64)])
		}
		s.WriteString(draw(chance, "", "", "=", "=="))
		if b, e := ark.FromBase64(s.String()); e == api.OK {
			taken++
			is(t, "Base64 of what was read", ark.Base64(b), s.String())
		}
	}
	is(t, "whether there were enough", taken > 5000, true)
}

func TestP6_9_WhateverTheOrder(t *testing.T) {
	chance := rand.New(rand.NewSource(69))
	for range 500 {
		files := drawFiles(chance, 10)
		b := packed(t, files...)
		sum, e := ark.H1(files)
		is(t, "H1's error", e, api.OK)
		for range 5 {
			mixed := shuffled(chance, files)
			packs(t, mixed, b)
			sums(t, mixed, sum, api.OK)
		}
	}
}

// Each byte of an archive, turned into each other one.
func TestP6_9_EachByteTurned(t *testing.T) {
	for _, files := range [][]api.File{nil, {file("a", "b")}, some()} {
		b := packed(t, files...)
		for place := range b {
			for c := range 256 {
				if b[place] == byte(c) {
					continue
				}
				turned := changed(b, place, byte(c))
				got, e := ark.Unpack(turned)
				_, want := modelUnpack(turned)
				if e != want || e == api.OK && same(got, files) || e != api.OK && len(got) > 0 {
					t.Errorf("byte %d turned into %x: %s, error %d, not %d", place, c, told(got), e, want)
				}
			}
		}
	}
}

func TestP6_9_OneByteOfManyTurned(t *testing.T) {
	chance := rand.New(rand.NewSource(690))
	found := map[api.Errno]int{}
	for range 20000 {
		files := modelRising(drawFiles(chance, 5))
		b := packed(t, files...)
		place := chance.Intn(len(b))
		turned := changed(b, place, b[place]^byte(1+chance.Intn(255)))
		got, e := ark.Unpack(turned)
		found[e]++
		if e == api.OK {
			is(t, "whether the files are the same", same(got, files), false)
			isBytes(t, "Pack of them", packed(t, got...), turned)
		}
	}
	is(t, fmt.Sprint("whether there were enough: ", found), found[api.ErrForm] > 500 && found[api.ErrSum] > 500 && found[api.ErrName] > 500, true)
}

func TestP6_10_SumsTell(t *testing.T) {
	chance := rand.New(rand.NewSource(610))
	seen := map[string]string{}
	for range 3000 {
		files := drawFiles(chance, 3)
		key := ""
		for _, f := range modelRising(files) {
			key += fmt.Sprintf("%q %x\n", f.Name, sha256.Sum256(f.Data))
		}
		sum, e := ark.H1(files)
		is(t, "H1's error", e, api.OK)
		if was, is := seen[key]; is && was != sum {
			t.Errorf("H1(%s): %s, and %s", told(files), was, sum)
		}
		seen[key] = sum
		others := shuffled(chance, files)
		for i := range others {
			others[i].Data = bytes.Clone(others[i].Data)
		}
		sums(t, others, sum, api.OK)
	}
	is(t, "whether some were the same", len(seen) < 2900, true)
}

// That unlike files have unlike sums is not promised, but no hash is known to
// fail it: a sum that passes over a part of a file shows here.
func TestP6_10_UnlikeSums(t *testing.T) {
	files := []api.File{file("a", "1"), file("b", "2")}
	all := [][]api.File{
		nil, files, files[:1], files[1:], {file("a", "1"), file("b", "3")}, {file("a", "3"), file("b", "2")}, {file("a", "1"), file("c", "2")},
		{file("a", "2"), file("b", "1")}, {file("A", "1"), file("b", "2")}, {file("a", "1\x00"), file("b", "2")}, {file("a", "1"), file("b", "")}, {file("a", "1"), file("b", "2"), file("c", "")},
	}
	seen := map[string]int{}
	for i, l := range all {
		sum, _ := ark.H1(l)
		if k, is := seen[sum]; is {
			t.Errorf("%s and %s have one sum", told(all[k]), told(l))
		}
		seen[sum] = i
	}
}
