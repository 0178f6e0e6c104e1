package ark_test

import (
	"archive/zip"
	"bytes"
	"encoding/hex"
	"fmt"
	"io"
	"math/rand"
	"strings"
	"testing"

	"mews/api"
	"mews/ark"
)

// ofHex is bytes, written in digits with blanks and newlines between.
func ofHex(s string) []byte {
	b, err := hex.DecodeString(strings.Join(strings.Fields(s), ""))
	if err != nil {
		panic(err)
	}
	return b
}

// filling is a file whose archive, beside the other files, has so many bytes.
func filling(t *testing.T, name string, size int, others ...api.File) api.File {
	t.Helper()
	f := file(name, "")
	f.Data = bytes.Repeat([]byte("x"), size-len(laid(append(others, f)...)))
	return f
}

func TestP6_3_Examples(t *testing.T) {
	packs(t, nil, append([]byte{0x50, 0x4b, 5, 6}, make([]byte, 18)...))
	packs(t, []api.File{}, append([]byte{0x50, 0x4b, 5, 6}, make([]byte, 18)...))
	packsNot(t, named("a", "a"), api.ErrTwice)
	packsNot(t, named("a", "A"), api.ErrTwice)
	packsNot(t, named("../a"), api.ErrName)
}

func TestP6_3_EachByte(t *testing.T) {
	packs(t, []api.File{file("b c/d", "two"), file("a", "")}, ofHex(`
		504b0304 1400 0000 0000 0000 2100 00000000 00000000 00000000 0100 0000 61
		504b0304 1400 0000 0000 0000 2100 668aca11 03000000 03000000 0500 0000 6220632f64 74776f
		504b0102 1400 1400 0000 0000 0000 2100 00000000 00000000 00000000 0100 0000 0000 0000 0000 00000000 00000000 61
		504b0102 1400 1400 0000 0000 0000 2100 668aca11 03000000 03000000 0500 0000 0000 0000 0000 00000000 1f000000 6220632f64
		504b0506 0000 0000 0200 0200 62000000 45000000 0000`))
}

// Numbers that take two bytes and more: each is written the low byte first.
func TestP6_3_GreatNumbers(t *testing.T) {
	files := []api.File{
		{Name: strings.Repeat("a", 200), Data: bytes.Repeat([]byte{1}, 0x01234)},
		{Name: "b", Data: bytes.Repeat([]byte{2}, 0x56789)},
		{Name: "c", Data: nil},
	}
	b := packed(t, files...)
	isBytes(t, "Pack", b, laid(files...))
	isBytes(t, "the first lengths", b[18:30], ofHex("34120000 34120000 c800 0000"))
	second := 30 + 200 + 0x1234
	isBytes(t, "the second lengths", b[second+18:second+30], ofHex("89670500 89670500 0100 0000"))
	third := second + 30 + 1 + 0x56789
	behind := third + 30 + 1
	last := len(b) - 22 - 47
	isBytes(t, "where the last head begins", b[last+42:last+46], []byte{byte(third), byte(third >> 8), byte(third >> 16), 0})
	isBytes(t, "where the second part begins", b[len(b)-6:len(b)-2], []byte{byte(behind), byte(behind >> 8), byte(behind >> 16), 0})
	isBytes(t, "how long it is", b[len(b)-10:len(b)-6], ofHex("54010000"))
}

// By bytes, not by elements: a blank, `-` and `.` stand ahead of `/`, and
// letters of upper case ahead of those of lower case.
func TestP6_3_RisingNames(t *testing.T) {
	rising := named("!", "B", "Z", "a", "a b", "a-b", "a.b", "a/b", "a/b/c", "a0", "aa", "b ~", "c", "~")
	chance := rand.New(rand.NewSource(630))
	for range 50 {
		packs(t, shuffled(chance, rising), laid(rising...))
	}
}

func TestP6_3_ErrMany(t *testing.T) {
	packs(t, many(100), laid(many(100)...))
	packsNot(t, many(101), api.ErrMany)
	packsNot(t, many(5000), api.ErrMany)
	packsNot(t, make([]api.File, 101), api.ErrMany)
	packsNot(t, make([]api.File, 100), api.ErrName)
	is(t, "MaxEntries", api.MaxEntries, 100)
}

func TestP6_3_ErrName(t *testing.T) {
	for _, name := range []string{"", ".", "a/..", "a//b", " a", "a ", "a:b", "\x7f", "\xff", strings.Repeat("a", 201)} {
		packsNot(t, named(name), api.ErrName)
		packsNot(t, named("x", "y", name), api.ErrName)
		packsNot(t, named(name, "x", "y"), api.ErrName)
		packsNot(t, named(name, name), api.ErrName)
	}
	packs(t, named(strings.Repeat("a", 200)), laid(named(strings.Repeat("a", 200))...))
}

func TestP6_3_ErrTwice(t *testing.T) {
	for _, names := range [][]string{
		{"a", "A"}, {"A", "a"}, {"a", "b", "c", "A"}, {"a/b", "A/b"}, {"a/b", "a/B"}, {"a/b", "A/B"}, {"Go.Mod", "gO.mOD"}, {"x", "a", "a", "x"},
		{strings.Repeat("a", 200), strings.Repeat("a", 199) + "A"},
	} {
		packsNot(t, named(names...), api.ErrTwice)
	}
	for c := 'a'; c <= 'z'; c++ {
		packsNot(t, named("x"+string(c), "x"+string(c-0x20)), api.ErrTwice)
	}
	// Names that are unlike: no letters, or not in the same places.
	for _, names := range [][]string{
		{"@", "`"}, {"[", "{"}, {"]", "}"}, {"^", "~"}, {"a", "a.a"}, {"a", "a/a"}, {"a/b", "a/c"}, {"A/b", "a/c"}, {"ab", "ba"}, {"a", "aa"}, {"a b", "ab"}, {"0", "O"}, {"!", "1"}, {"-", "_"},
	} {
		packs(t, named(names...), laid(modelRising(named(names...))...))
	}
}

func TestP6_3_ErrLong(t *testing.T) {
	others := many(5)
	f := filling(t, "x", 1<<20, others...)
	files := append(others, f)
	b := packed(t, files...)
	is(t, "how long the longest one is", len(b), api.MaxArchive)
	isBytes(t, "the longest one", b, laid(files...))
	unpacks(t, "the longest one", b, files)
	files[5].Data = append(files[5].Data, 'x')
	packsNot(t, files, api.ErrLong)
	files[5].Data = bytes.Repeat([]byte("x"), 1<<20)
	packsNot(t, files, api.ErrLong)
	files[5] = file("xx", strings.Repeat("x", len(f.Data)-2))
	is(t, "how long one with a longer name is", len(packed(t, files...)), api.MaxArchive)
	files[5] = file("xx", strings.Repeat("x", len(f.Data)-1))
	packsNot(t, files, api.ErrLong)
}

// All files share their bytes: it is the archive that would be great.
func TestP6_3_FarTooLong(t *testing.T) {
	files := many(100)
	shared := make([]byte, 1<<24)
	for i := range files {
		files[i].Data = shared
	}
	packsNot(t, files, api.ErrLong)
}

func TestP6_3_OrderOfErrors(t *testing.T) {
	long := api.File{Name: "long", Data: make([]byte, api.MaxArchive)}
	wrong, twin := file("a//b", ""), file("LONG", "")
	packsNot(t, []api.File{long, wrong, twin}, api.ErrName)
	packsNot(t, []api.File{long, twin, wrong}, api.ErrTwice)
	packsNot(t, []api.File{wrong, long, twin}, api.ErrName)
	packsNot(t, []api.File{twin, long, wrong}, api.ErrTwice)
	packsNot(t, []api.File{long, twin}, api.ErrTwice)
	packsNot(t, []api.File{long, wrong}, api.ErrName)
	packsNot(t, []api.File{wrong, wrong}, api.ErrName)
	packsNot(t, []api.File{long}, api.ErrLong)
	packsNot(t, append(many(98), long, wrong, twin), api.ErrMany)
	packsNot(t, append([]api.File{wrong, long, twin}, many(98)...), api.ErrMany)
	packsNot(t, append([]api.File{long, twin, wrong}, many(97)...), api.ErrTwice)
	// The names are looked at as they come, not as they rise.
	packsNot(t, named("z", "z", " a"), api.ErrTwice)
	packsNot(t, named("z", " a", "z"), api.ErrName)
	packsNot(t, named("a", "~ ", "A"), api.ErrName)
}

// zipFiles is what the library's reader of zips tells.
func zipFiles(t *testing.T, b []byte) []api.File {
	t.Helper()
	r, err := zip.NewReader(bytes.NewReader(b), int64(len(b)))
	if err != nil {
		t.Fatalf("no zip: %v", err)
	}
	var files []api.File
	for _, f := range r.File {
		is(t, "its method", f.Method, zip.Store)
		is(t, "its day", f.Modified.UTC().Format("2006-01-02"), "1980-01-01")
		content, err := f.Open()
		if err != nil {
			t.Fatalf("%s: %v", f.Name, err)
		}
		data, err := io.ReadAll(content)
		is(t, "its error", fmt.Sprint(err), "<nil>")
		files = append(files, api.File{Name: f.Name, Data: data})
	}
	return files
}

func TestP6_3_AsTheLibraryReadsIt(t *testing.T) {
	chance := rand.New(rand.NewSource(631))
	for range 300 {
		files := drawFiles(chance, 10)
		areFiles(t, "the zip", zipFiles(t, packed(t, files...)), modelRising(files))
	}
}

func TestP6_3_AsTheModelWritesIt(t *testing.T) {
	chance := rand.New(rand.NewSource(632))
	found := map[api.Errno]int{}
	for range 6000 {
		files := drawLoose(chance, 8)
		if chance.Intn(50) == 0 {
			files = append(files, many(chance.Intn(110))...)
		}
		want, e := modelPack(files)
		found[e]++
		if e == api.OK {
			packs(t, files, want)
		} else {
			packsNot(t, files, e)
		}
	}
	is(t, "whether there were enough", found[api.OK] > 500 && found[api.ErrName] > 500 && found[api.ErrTwice] > 500 && found[api.ErrMany] > 5, true)
}

func TestP6_3_TheSameAgain(t *testing.T) {
	files := named("c", "a", "b")
	first := packed(t, files...)
	for range 20 {
		b, e := ark.Pack(files)
		is(t, "its error", e, api.OK)
		isBytes(t, "Pack again", b, first)
	}
}
