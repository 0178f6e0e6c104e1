package ark_test

import (
	"bytes"
	"fmt"
	"math"
	"math/rand"
	"slices"
	"strings"
	"testing"

	"mews/api"
	"mews/ark"
)

// some is files of an archive, as they rise; two of them have parts of an
// archive within.
func some() []api.File {
	return []api.File{file("a", ""), file("b c/d", "two"), file("go.mod", "PK\x03\x04"), file("x", "PK\x05\x06"+strings.Repeat("\x00", 18))}
}

// unpacksAsModel fails the test unless Unpack answers what the model does.
func unpacksAsModel(t *testing.T, what string, b []byte) {
	t.Helper()
	if want, e := modelUnpack(b); e == api.OK {
		unpacks(t, what, b, want)
	} else {
		unpacksNot(t, what, b, e)
	}
}

// spoiltHead is a file with something else in its head.
func spoiltHead(f api.File, change func(h *zipHead)) []byte {
	head := headOf(f)
	change(&head)
	return written(head, []byte(f.Name), f.Data)
}

// wrongSum is a file with another CRC in its head.
func wrongSum(f api.File) []byte { return spoiltHead(f, func(h *zipHead) { h.CRC ^= 1 }) }

func TestP6_4_Files(t *testing.T) {
	unpacks(t, "the archive of none", laid(), nil)
	unpacks(t, "an archive", laid(some()...), some())
	unpacks(t, "one with one file", laid(file("a", "text")), []api.File{file("a", "text")})
	unpacks(t, "one with an archive in it", laid(file("a.zip", string(laid(some()...)))), []api.File{file("a.zip", string(laid(some()...)))})
	long := named(strings.Repeat("a", 200))
	unpacks(t, "one with a long name", laid(long...), long)
	all := make([]byte, 256)
	for i := range all {
		all[i] = byte(i)
	}
	unpacks(t, "one with each byte", laid(file("a", string(all))), []api.File{file("a", string(all))})
}

func TestP6_4_ErrLong(t *testing.T) {
	longest := []api.File{filling(t, "a", 1<<20)}
	unpacks(t, "as many bytes as may be", laid(longest...), longest)
	unpacksNot(t, "one more", append(laid(longest...), 0), api.ErrLong)
	longest[0].Data = append(longest[0].Data, 'x')
	unpacksNot(t, "one more within", laid(longest...), api.ErrLong)
	unpacksNot(t, "zeros", make([]byte, api.MaxArchive+1), api.ErrLong)
	unpacksNot(t, "fewer zeros", make([]byte, api.MaxArchive), api.ErrForm)
	unpacksNot(t, "many zeros", make([]byte, 1<<24), api.ErrLong)
}

// Ahead of its mark's end there is no head; from there to its bytes' end it is
// cut; behind the heads it is the form that is at fault.
func TestP6_4_CutAtEveryPlace(t *testing.T) {
	b := laid(some()...)
	want := make([]api.Errno, len(b))
	for i := range want {
		want[i] = api.ErrForm
	}
	place := 0
	for _, f := range some() {
		length := len(headed(f))
		for i := place + 4; i < place+length; i++ {
			want[i] = api.ErrShort
		}
		place += length
	}
	for i, e := range want {
		unpacksNot(t, fmt.Sprint("the first ", i, " bytes"), b[:i:i], e)
		unpacksAsModel(t, fmt.Sprint("all but the first ", i, " bytes"), b[i:])
	}
	unpacksNot(t, "nothing", nil, api.ErrForm)
}

// The bytes are in memory behind what is handed in: they don't count.
func TestP6_4_CutWithMoreBehind(t *testing.T) {
	b := laid(some()...)
	for i := range b {
		_, want := modelUnpack(b[:i:i])
		unpacksNot(t, fmt.Sprint("the first ", i, " bytes, the others behind them"), b[:i], want)
	}
}

func TestP6_4_LengthsInHeads(t *testing.T) {
	f := file("name", "bytes")
	whole := closed(headed(f), f)
	left := uint32(len(whole) - 30 - 4)
	for _, length := range []uint32{0, 1, 4, 6, 7, left - 1, left, left + 1, 1 << 16, 1 << 20, 1 << 24, math.MaxInt32, math.MaxInt32 + 1, math.MaxUint32 - 33, math.MaxUint32 - 3, math.MaxUint32} {
		b := closed(spoiltHead(f, func(h *zipHead) { h.Length = length }), f)
		_, want := modelUnpack(b)
		is(t, fmt.Sprint("whether ", length, " bytes are left"), want != api.ErrShort, length <= left)
		unpacksNot(t, fmt.Sprint("one with the length ", length), b, want)
		unpacksNot(t, fmt.Sprint("one with the other length ", length), closed(spoiltHead(f, func(h *zipHead) { h.Again = length }), f), api.ErrForm)
		both := closed(spoiltHead(f, func(h *zipHead) { h.Length, h.Again = length, length }), f)
		unpacksNot(t, fmt.Sprint("one with both lengths ", length), both, want)
	}
	for _, length := range []uint16{0, 1, 3, 5, 9, uint16(left), uint16(left + 1), 200, 201, 1000, math.MaxInt16, math.MaxInt16 + 1, math.MaxUint16} {
		b := closed(spoiltHead(f, func(h *zipHead) { h.NameLength = length }), f)
		_, want := modelUnpack(b)
		unpacksNot(t, fmt.Sprint("one with a name of ", length), b, want)
		unpacksNot(t, fmt.Sprint("one with more of ", length), closed(spoiltHead(f, func(h *zipHead) { h.Extra = length | 1 }), f), api.ErrForm)
	}
	both := closed(spoiltHead(f, func(h *zipHead) { h.Length, h.NameLength = math.MaxUint32, math.MaxUint16 }), f)
	unpacksNot(t, "one with the greatest lengths", both, api.ErrShort)
	// Just what is left is no cut: the rest of the archive is the file's bytes.
	unpacksNot(t, "all as bytes", closed(spoiltHead(f, func(h *zipHead) { h.Length = left }), f), api.ErrSum)
	unpacksNot(t, "no byte behind the name", headed(file("a", "")), api.ErrForm)
	unpacksNot(t, "no byte behind the bytes", headed(file("a", "text")), api.ErrForm)
}

func TestP6_4_ErrMany(t *testing.T) {
	files := many(100)
	unpacks(t, "as many files as may be", laid(files...), files)
	unpacksNot(t, "one more", laid(many(101)...), api.ErrMany)
	unpacksNot(t, "as many as there is room for", bytes.Repeat(headed(file("", "")), 1<<20/30), api.ErrMany)
	unpacksNot(t, "one more, without an end", bytes.Repeat(headed(file("a", "")), 101), api.ErrMany)
	unpacksNot(t, "no more, without an end", bytes.Repeat(headed(file("a", "")), 100), api.ErrTwice)
}

func TestP6_4_ErrName(t *testing.T) {
	for _, name := range []string{"", ".", "..", "a/..", "../a", "/a", "a/", "a//b", " a", "a ", "a:b", "a\\b", "\x7f", "\xff", "\x00", strings.Repeat("a", 201), strings.Repeat("a", 1000)} {
		unpacksNot(t, fmt.Sprintf("%q", name), laid(named(name)...), api.ErrName)
		unpacksNot(t, fmt.Sprintf("x, %q", name), laid(named("x", name)...), api.ErrName)
		unpacksNot(t, fmt.Sprintf("%q, x", name), laid(named(name, "x")...), api.ErrName)
	}
}

func TestP6_4_ErrTwice(t *testing.T) {
	for _, names := range [][]string{{"a", "a"}, {"A", "a"}, {"a", "A"}, {"a/B", "a/b"}, {"A/b", "a/b"}, {"A", "b", "c", "d", "a"}} {
		unpacksNot(t, fmt.Sprint(names), laid(named(names...)...), api.ErrTwice)
	}
	twins := []api.File{file("a", "text"), file("a", "text")}
	unpacksNot(t, "two that are the same", laid(twins...), api.ErrTwice)
	unlike := named("@", "[", "`", "{")
	unpacks(t, "names that are no letters", laid(unlike...), unlike)
}

func TestP6_4_ErrSum(t *testing.T) {
	for i, f := range some() {
		for bit := range 32 {
			var heads []byte
			for k, other := range some() {
				heads = append(heads, spoiltHead(other, func(h *zipHead) {
					if k == i {
						h.CRC ^= 1 << bit
					}
				})...)
			}
			unpacksNot(t, f.Name+" with another sum", closed(heads, some()...), api.ErrSum)
		}
	}
	b := laid(some()...)
	unpacksNot(t, "another text", bytes.Replace(b, []byte("two"), []byte("owt"), 1), api.ErrSum)
}

// orderCase is heads that have more than one fault, and the error of the first.
type orderCase struct {
	what  string
	heads []byte
	want  api.Errno
}

func orderCases() []orderCase {
	good, twin, wrong, late := file("b", "1"), file("B", "2"), file("..", "3"), file("a", "4")
	cut := headed(good)[:20]
	hundred := bytes.Repeat(headed(late), 100)
	return []orderCase{
		{"a wrong name, and cut", joined(headed(wrong), cut), api.ErrShort},
		{"a twin, and cut", joined(headed(good), headed(twin), cut), api.ErrShort},
		{"a wrong sum, and cut", joined(wrongSum(good), cut), api.ErrShort},
		{"many, and cut", joined(hundred, headed(wrong), cut), api.ErrShort},
		{"many, a wrong name, a twin, a wrong sum", joined(headed(wrong), wrongSum(good), headed(twin), hundred), api.ErrMany},
		{"a wrong name with a wrong sum", wrongSum(wrong), api.ErrName},
		{"a twin with a wrong sum", joined(headed(good), wrongSum(twin)), api.ErrTwice},
		{"two wrong names alike", joined(headed(wrong), headed(wrong)), api.ErrName},
		{"a wrong sum, then a wrong name", joined(wrongSum(good), headed(wrong)), api.ErrSum},
		{"a wrong sum, then a twin", joined(wrongSum(good), headed(twin)), api.ErrSum},
		{"a wrong name, then a wrong sum", joined(headed(wrong), wrongSum(good)), api.ErrName},
		{"a twin, then a wrong sum", joined(headed(good), headed(twin), wrongSum(late)), api.ErrTwice},
		{"a twin, then a wrong name", joined(headed(good), headed(twin), headed(wrong)), api.ErrTwice},
		{"a wrong name, then a twin", joined(headed(good), headed(wrong), headed(twin)), api.ErrName},
		{"not rising, then a wrong sum", joined(headed(good), wrongSum(late)), api.ErrSum},
		{"not rising, then a wrong name", joined(headed(good), headed(late), headed(wrong)), api.ErrName},
		{"another version, then a wrong sum", joined(spoiltHead(late, func(h *zipHead) { h.Version = 10 }), wrongSum(good)), api.ErrSum},
		{"another version, then a twin", joined(spoiltHead(good, func(h *zipHead) { h.Version = 10 }), headed(twin)), api.ErrTwice},
		{"another version", spoiltHead(good, func(h *zipHead) { h.Version = 10 }), api.ErrForm},
		{"not rising", joined(headed(good), headed(late)), api.ErrForm},
	}
}

func TestP6_4_OrderOfErrors(t *testing.T) {
	for _, c := range orderCases() {
		unpacksNot(t, c.what+", nothing behind", c.heads, c.want)
		files, _, _ := modelHeads(c.heads)
		unpacksNot(t, c.what+", closed", closed(c.heads, files...), orderWhenClosed(c))
		long := append(slices.Clone(c.heads), make([]byte, 1<<20)...)
		unpacksNot(t, c.what+", long", long, api.ErrLong)
	}
}

// orderWhenClosed is the error where something stands behind the heads: what
// was cut then has other bytes.
func orderWhenClosed(c orderCase) api.Errno {
	if c.want != api.ErrShort {
		return c.want
	}
	_, e := modelUnpack(closed(c.heads))
	return e
}

func TestP6_4_SomethingBetween(t *testing.T) {
	files := some()
	b := laid(files...)
	var places []int
	for i := 0; i < len(files); i++ {
		places = append(places, len(joined(each(files[:i], headed)...)))
	}
	heads := len(joined(each(files, headed)...))
	for i := 0; i < len(files); i++ {
		places = append(places, heads)
		heads += 46 + len(files[i].Name)
	}
	places = append(places, heads, len(b))
	is(t, "where the end stands", heads, len(b)-22)
	for _, more := range []string{"\x00", "x", "PK", "PK\x03", "PK\x05\x06", "PK\x01\x02", "PK\x05\x06" + strings.Repeat("\x00", 18), string(laid(named("y")...)), "PK\x03\x05"} {
		for _, place := range places {
			unpacksNot(t, fmt.Sprintf("%q at %d", more, place), inserted(b, place, []byte(more)...), api.ErrForm)
		}
	}
	for place := range len(b) + 1 {
		for _, more := range []string{"\x00", "P", "PK\x03\x04", string(headed(file("y", "z")))} {
			unpacksAsModel(t, fmt.Sprintf("%q at %d", more, place), inserted(b, place, []byte(more)...))
		}
	}
	unpacksNot(t, "twice the same", joined(b, b), api.ErrForm)
	unpacksNot(t, "a comment at the end", append(changed(b, len(b)-2, 1), 'x'), api.ErrForm)
	unpacksNot(t, "the second part alone", b[places[len(files)]:], api.ErrForm)
}

// each is a function of each element.
func each[T, U any](list []T, of func(T) U) []U {
	var all []U
	for _, element := range list {
		all = append(all, of(element))
	}
	return all
}

func TestP6_4_OtherForms(t *testing.T) {
	f, other := file("a", "text"), file("b", "more")
	for what, change := range map[string]func(h *zipHead){
		"version": func(h *zipHead) { h.Version = 10 }, "flags": func(h *zipHead) { h.Flags = 8 }, "method": func(h *zipHead) { h.Method = 8 },
		"time": func(h *zipHead) { h.Time = 1 }, "date": func(h *zipHead) { h.Date = 0 }, "second length": func(h *zipHead) { h.Again++ }, "more": func(h *zipHead) { h.Extra = 1 },
	} {
		unpacksNot(t, what+" of a head", closed(spoiltHead(f, change), f), api.ErrForm)
	}
	unpacksNot(t, "names that fall", laid(other, f), api.ErrForm)
	heads := joined(headed(f), headed(other))
	unpacksNot(t, "a second part that falls", closed(heads, other, f), api.ErrForm)
	unpacksNot(t, "a second part of one", closed(heads, f), api.ErrForm)
	unpacksNot(t, "a second part of more", closed(headed(f), f, other), api.ErrForm)
	unpacksNot(t, "a second part of another", closed(headed(f), other), api.ErrForm)
	unpacksNot(t, "a second part of another text", closed(headed(f), file("a", "txet")), api.ErrForm)
	unpacksNot(t, "a second part of another case", closed(headed(f), file("A", "text")), api.ErrForm)
	unpacksNot(t, "no end", heads, api.ErrForm)
	unpacksNot(t, "no second part", joined(headed(f), written(endOf(1, 0, 35))), api.ErrForm)
	unpacksNot(t, "something that is no archive", []byte("something that is no archive"), api.ErrForm)
}

// What Pack would refuse as too long is no archive either: it can't be b.
func TestP6_4_FilesWhoseArchiveWouldBeLong(t *testing.T) {
	f := file("a", strings.Repeat("x", 1<<20-31))
	heads := headed(f)
	is(t, "how long it is", len(heads), 1<<20)
	unpacksNot(t, "heads that fill all", heads, api.ErrForm)
	_, e := ark.Pack([]api.File{f})
	is(t, "Pack of it", e, api.ErrLong)
}

func TestP6_4_AsTheModelReadsIt(t *testing.T) {
	chance := rand.New(rand.NewSource(64))
	found := map[api.Errno]int{}
	for range 20000 {
		b := laid(drawFiles(chance, 4)...)
		switch chance.Intn(6) {
		case 0:
			b = laid(drawLoose(chance, 4)...)
		case 1:
			b = laid(modelRising(drawFiles(chance, 4))...)
		default:
			b = spoilt(chance, b)
		}
		_, e := modelUnpack(b)
		found[e]++
		unpacksAsModel(t, fmt.Sprintf("%q", b), b)
	}
	for _, e := range []api.Errno{api.OK, api.ErrShort, api.ErrName, api.ErrTwice, api.ErrSum, api.ErrForm} {
		is(t, fmt.Sprint("whether there were enough of ", e, ": ", found), found[e] > 200, true)
	}
}
