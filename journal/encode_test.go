package journal_test

import (
	"fmt"
	"math/rand"
	"strings"
	"testing"

	"mews/api"
	"mews/journal"
)

// encodes fails the test unless Encode answers as the model does.
func encodes(t *testing.T, what string, l []journal.Change) api.Errno {
	t.Helper()
	want, wantE := modelEncode(l)
	got, e := journal.Encode(l)
	isError(t, "Encode, "+what, e, wantE)
	isBytes(t, "Encode, "+what, got, []byte(want))
	return wantE
}

// encodesNot fails the test unless Encode answers an error, and nothing beside it.
func encodesNot(t *testing.T, what string, l []journal.Change, want api.Errno) {
	t.Helper()
	got, e := journal.Encode(l)
	isError(t, "Encode, "+what, e, want)
	isBytes(t, "Encode, "+what, got, nil)
}

// The bytes are written out here, with CRCs that were worked out elsewhere.
func TestP9_1_Examples(t *testing.T) {
	for _, c := range []struct {
		what string
		l    []journal.Change
		want string
	}{
		{"none", nil, "\x07\x00\x00\x00\xe3\xc5\x84\xac\x03\x00\x00\x00\x00\x00\x00"},
		{"a write", changes(write("c", "y")), "\x05\x00\x00\x00\x34\x48\xf7\x24\x01\x01\x00cy" + "\x07\x00\x00\x00\x86\xa2\x38\x14\x03\x00\x00\x01\x00\x00\x00"},
	} {
		got, e := journal.Encode(c.l)
		isError(t, c.what, e, api.OK)
		isBytes(t, c.what, got, []byte(c.want))
	}
	encodesNot(t, "a twice", changes(write("a", ""), write("a", "")), api.ErrTwice)
	encodesNot(t, "/a", changes(write("/a", "")), api.ErrName)
}

func TestP9_1_Records(t *testing.T) {
	for what, l := range map[string][]journal.Change{
		"no change":                        {},
		"a write":                          changes(write("a/b", "xy")),
		"a drop":                           changes(drop("a/b")),
		"empty data":                       changes(write("a", "")),
		"all":                              changes(write("a", "x"), drop("b"), write("c/d", "yz"), drop("c/e")),
		"in the order in which they come":  changes(write("c", "1"), drop("b"), write("a", "2")),
		"data of 300 bytes":                changes(write("a", strings.Repeat("x", 300))),
		"data of 70000 bytes":              changes(write("a", strings.Repeat("x", 70000)), write("b", "y")),
		"data of zeros":                    changes(write("a", "\x00\x00\x00")),
		"data that are a journal":          changes(write("a", modelBytes(write("b", "x")))),
		"the greatest name":                changes(write(strings.Repeat("n", api.MaxName), "x"), drop(strings.Repeat("m", api.MaxName))),
		"names that begin with one other":  changes(write("a", "1"), write("a/b", "2"), write("ab", "3"), write("A", "4")),
		"the journal's own file is a name": changes(write(file, "x")),
	} {
		is(t, what, encodes(t, what, l), api.OK)
	}
}

func TestP9_1_DataOfADrop(t *testing.T) {
	l := changes(write("a", "x"), journal.Change{Name: "b", Data: []byte("not looked at"), Drop: true})
	got, e := journal.Encode(l)
	isError(t, "a drop with data", e, api.OK)
	isBytes(t, "a drop with data", got, []byte(modelBytes(write("a", "x"), drop("b"))))
}

func TestP9_1_Names(t *testing.T) {
	for _, name := range noNames() {
		encodesNot(t, "a write of "+brief(name), changes(write(name, "x")), api.ErrName)
		encodesNot(t, "a drop of "+brief(name), changes(drop(name)), api.ErrName)
		encodesNot(t, "behind others, "+brief(name), changes(write("a", "x"), drop("b"), write(name, "")), api.ErrName)
	}
	for c := range 256 {
		encodes(t, fmt.Sprint("the byte ", c), changes(write("n"+string([]byte{byte(c)})+"n", "x")))
	}
}

func TestP9_1_Twice(t *testing.T) {
	for what, l := range map[string][]journal.Change{
		"two writes":           changes(write("a", "x"), write("a", "x")),
		"two drops":            changes(drop("a"), drop("a")),
		"a write and a drop":   changes(write("a", "x"), drop("a")),
		"a drop and a write":   changes(drop("a"), write("a", "x")),
		"others between":       changes(write("a", "x"), write("b", ""), drop("c"), write("a", "y")),
		"the greatest of them": append(someWrites(api.MaxChanges-1, "d", ""), write("d/0", "")),
	} {
		encodesNot(t, what, l, api.ErrTwice)
	}
}

func TestP9_1_Many(t *testing.T) {
	is(t, "MaxChanges", encodes(t, "MaxChanges", someWrites(api.MaxChanges, "d", "x")), api.OK)
	encodesNot(t, "one more", someWrites(api.MaxChanges+1, "d", "x"), api.ErrMany)
	encodesNot(t, "many more", someWrites(3*api.MaxChanges, "d", "x"), api.ErrMany)
}

func TestP9_1_OrderOfErrors(t *testing.T) {
	encodesNot(t, "too many, none of them named", make([]journal.Change, api.MaxChanges+1), api.ErrMany)
	encodesNot(t, "too many, the first twice", append(changes(write("d/0", "")), someWrites(api.MaxChanges, "d", "")...), api.ErrMany)
	encodesNot(t, "as many as may be, none of them named", make([]journal.Change, api.MaxChanges), api.ErrName)
	encodesNot(t, "twice ahead of no name", changes(write("a", ""), write("a", ""), write("/b", "")), api.ErrTwice)
	encodesNot(t, "no name ahead of twice", changes(write("a", ""), write("/b", ""), write("a", "")), api.ErrName)
	encodesNot(t, "no name, twice", changes(write("/b", ""), write("/b", "")), api.ErrName)
}

func TestP9_1_Model(t *testing.T) {
	chance := rand.New(rand.NewSource(91))
	drawn := map[api.Errno]int{}
	for range 5000 {
		l := drawLoose(chance)
		drawn[encodes(t, toldChanges(l), l)]++
	}
	for _, e := range []api.Errno{api.OK, api.ErrName, api.ErrTwice} {
		if drawn[e] < 100 {
			t.Errorf("the error %d was drawn %d times", e, drawn[e])
		}
	}
}
