package cache_test

import (
	"fmt"
	"maps"
	"math/rand"
	"slices"
	"strings"
	"testing"

	"mews/api"
	"mews/cache"
	"mews/fs"
)

// draw is one of them by chance.
func draw[T any](chance *rand.Rand, all ...T) T { return all[chance.Intn(len(all))] }

// drawEntry is an entry of these, or, now and then, one that may not be.
func drawEntry(chance *rand.Rand, all []cache.Entry) cache.Entry {
	if chance.Intn(12) == 0 {
		return draw(chance, wrongEntries()...)
	}
	return draw(chance, all...)
}

// drawForm is what may stand in a name's file: mostly something that says a blob.
func drawForm(chance *rand.Rand, data string) string {
	if chance.Intn(3) > 0 {
		return modelSay(data)
	}
	return badForms()[draw(chance, slices.Sorted(maps.Keys(badForms()))...)]
}

// drawKeep is some entries, in any order, perhaps twice.
func drawKeep(chance *rand.Rand, all []cache.Entry) []cache.Entry {
	var l []cache.Entry
	for range chance.Intn(2 * len(all)) {
		l = append(l, drawEntry(chance, all))
	}
	return l
}

// meddle is what others do to files.
func meddle(chance *rand.Rand, f *fs.FS, all []cache.Entry) {
	data := draw(chance, "", "x", "yy")
	switch chance.Intn(6) {
	case 0:
		f.Write(nameOf(draw(chance, all...)), []byte(drawForm(chance, data)))
	case 1:
		f.Write(modelBlob(data), []byte(draw(chance, "", "x", "spoilt")))
	case 2:
		f.Remove(modelBlob(data))
	case 3:
		f.Remove(nameOf(draw(chance, all...)))
	case 4:
		f.Write("cache/blob/"+draw(chance, strays()...), []byte("stray"))
	case 5:
		f.Write("cache/name/"+draw(chance, noEntries()...), []byte(modelSay(data)))
	}
}

// walk is a walk of calls, each held against the model, with others between.
func walk(chance *rand.Rand, x checked) {
	for range 40 {
		data := draw(chance, "", "x", "yy")
		switch chance.Intn(9) {
		case 0, 1:
			x.put(drawEntry(chance, x.all), data)
		case 2, 3:
			x.get(drawEntry(chance, x.all))
		case 4:
			x.peek(drawEntry(chance, x.all))
		case 5:
			x.list()
		case 6:
			x.sweep(drawKeep(chance, x.all)...)
		default:
			meddle(chance, x.f, x.all)
		}
		if chance.Intn(40) == 0 {
			downed(x.f)
		} else if chance.Intn(10) == 0 {
			x.f.Crash(chance.Intn(4), chance.Intn(70))
			x.c = opens(x.t, x.f)
		}
	}
}

// Every call answers what the chapter says of the files that there are, and
// changes just what it says.
func TestWalks(t *testing.T) {
	chance := rand.New(rand.NewSource(100))
	for range 80 {
		f := fs.New(draw(chance, 600, 1000, 1500, 10000))
		all := append(ordered()[6:9], one(), two(), three())
		walk(chance, checked{t, f, opens(t, f), all})
	}
}

// hashed fails the test unless what is told has the hash that its name says.
func hashed(t *testing.T, f *fs.FS, e cache.Entry, b []byte, errno api.Errno) {
	t.Helper()
	text, _ := f.Read(nameOf(e))
	if errno == api.OK {
		is(t, "what the name says of "+brief(e), string(text), modelSay(string(b)))
	} else {
		is(t, "what is told beside an error", len(b), 0)
	}
}

// Whatever stands in the files, also what others wrote.
func TestP10_7_ItsHash(t *testing.T) {
	chance := rand.New(rand.NewSource(107))
	met := map[api.Errno]int{}
	all := append(ordered()[6:9], one(), two(), three())
	for range 200 {
		f, c := fresh(t)
		for range 25 {
			meddle(chance, f, all)
			if chance.Intn(3) == 0 {
				c.Put(draw(chance, all...), []byte(draw(chance, "", "x", "yy")))
			}
		}
		for _, e := range all {
			b, errno := c.Peek(e)
			met[errno]++
			hashed(t, f, e, b, errno)
			follows(t, f, c, e)
		}
	}
	is(t, "whether all were met", met[api.OK] > 100 && met[api.ErrNone] > 100 && met[api.ErrCorrupt] > 100, true)
}

// follows fails the test unless an entry that Get puts aside is not there, and
// is whole behind Put.
func follows(t *testing.T, f *fs.FS, c *cache.Cache, e cache.Entry) {
	t.Helper()
	b, errno := c.Get(e)
	hashed(t, f, e, b, errno)
	if errno != api.ErrCorrupt {
		return
	}
	is(t, "whether the name is there", f.Has(nameOf(e)), false)
	peeksNot(t, "put aside", c, e, api.ErrNone)
	is(t, "whether List has it", slices.Contains(c.List(), e), false)
	keeps(t, c, e, "new")
	peeks(t, "kept anew", c, e, "new")
}

// Each byte of a blob counts, and each digit of a name.
func TestP10_7_EachByte(t *testing.T) {
	f, c := fresh(t)
	data := strings.Repeat("0123456789abcdef", 10)
	keeps(t, c, one(), data)
	for i := range len(data) {
		lay(t, f, modelBlob(data), data[:i]+"!"+data[i+1:])
		peeksNot(t, fmt.Sprint("byte ", i), c, one(), api.ErrCorrupt)
	}
	lay(t, f, modelBlob(data), data)
	for i, digit := range []byte(modelDigits(data)) {
		says := []byte(modelSay(data))
		says[i] = "0123456789abcdef0"[strings.IndexByte("0123456789abcdef", digit)+1]
		lay(t, f, nameOf(one()), string(says))
		peeksNot(t, fmt.Sprint("digit ", i), c, one(), api.ErrCorrupt)
	}
	lay(t, f, nameOf(one()), modelSay(data))
	peeks(t, "as it was", c, one(), data)
}

func TestP10_9_Once(t *testing.T) {
	f, c := fresh(t)
	l := ordered()
	for i, e := range l {
		keeps(t, c, e, "the same")
		is(t, "blobs", strings.Join(f.List("cache/blob"), " "), modelBlob("the same"))
		is(t, "names", len(f.List("cache/name")), i+1)
	}
	for len(l) > 1 {
		l = l[1:]
		counts(t, "one less", c, l, 1)
		is(t, "blobs", strings.Join(f.List("cache/blob"), " "), modelBlob("the same"))
		for _, e := range l {
			peeks(t, "kept", c, e, "the same")
		}
	}
	counts(t, "the last one", c, nil, 2)
	is(t, "files", len(f.List("")), 0)
}

// Sweep takes a blob only when no entry that is left says it.
func TestP10_9_Drawn(t *testing.T) {
	chance := rand.New(rand.NewSource(109))
	for range 60 {
		f, c := fresh(t)
		data := map[cache.Entry]string{}
		for _, e := range ordered() {
			data[e] = draw(chance, "", "x", "yy", "zzz")
			keeps(t, c, e, data[e])
		}
		keep := drawKeep(chance, ordered())
		_, errno := c.Sweep(keep)
		isError(t, "Sweep", errno, api.OK)
		blobs := map[string]int{}
		for e, kept := range data {
			if slices.Contains(keep, e) {
				peeks(t, "kept", c, e, kept)
				blobs[modelBlob(kept)]++
			} else {
				peeksNot(t, "not kept", c, e, api.ErrNone)
			}
		}
		is(t, "blobs", len(f.List("cache/blob")), len(blobs))
	}
}
