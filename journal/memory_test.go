package journal_test

import (
	"bytes"
	"slices"
	"testing"

	"mews/api"
	"mews/fs"
	"mews/journal"
)

// The marks that lie behind lists, and that are written into answers.
const (
	roomByte   = 0xa5
	spoiltByte = 0x5a
)

// roomy is the list with spare room behind it, filled with a mark.
func roomy[T any](list []T, mark T) []T {
	whole := slices.Clone(list)
	for range 100 {
		whole = append(whole, mark)
	}
	return whole[:len(list)]
}

// whole is the list with what lies behind it.
func whole[T any](list []T) []T { return list[:cap(list)] }

// spoil writes into all the memory of a list.
func spoil[T any](list []T, mark T) {
	for i := range whole(list) {
		whole(list)[i] = mark
	}
}

// given is changes with spare room behind all lists. What lies behind them
// would be changes, and data.
func given() []journal.Change {
	l := changes(write("a", "new"), journal.Change{Name: "b", Data: []byte("data"), Drop: true}, write("c", ""))
	for i := range l {
		l[i].Data = roomy(l[i].Data, roomByte)
	}
	return roomy(l, write("behind", "x"))
}

// spoilChanges writes into all the memory of changes.
func spoilChanges(l []journal.Change) {
	for _, c := range l {
		spoil(c.Data, spoiltByte)
	}
	spoil(l, write("spoilt", "spoilt"))
}

// memory is changes as one text, with what lies behind all lists.
func memory(l []journal.Change) string {
	all := slices.Clone(whole(l))
	for i := range all {
		all[i].Data = bytes.Clone(whole(all[i].Data))
	}
	return toldChanges(all)
}

func TestP9_5_ChangesHandedIn(t *testing.T) {
	l := given()
	before := memory(l)
	want := modelBytes(dropless(l)...)
	b, e := journal.Encode(l)
	isError(t, "Encode", e, api.OK)
	isBytes(t, "Encode", b, []byte(want))
	f := laid(t, 1000, "b", "old")
	j := opens(t, "new", f, 0)
	isError(t, "Apply", j.Apply(l), api.OK)
	is(t, "the changes that were handed in", memory(l), before)
	spoilChanges(l)
	isBytes(t, "Encode, the changes spoilt", b, []byte(want))
	has(t, "Apply, the changes spoilt", f, "a=new c=")
	spoil(b, spoiltByte)
	has(t, "Apply, the bytes spoilt", f, "a=new c=")
}

// An Apply that was interrupted keeps nothing of the changes, either.
func TestP9_5_Interrupted(t *testing.T) {
	for step := 1; ; step++ {
		f := laid(t, 1000, "b", "old")
		j := opens(t, "new", f, 0)
		l := given()
		before := memory(l)
		f.Arm(step)
		e := j.Apply(l)
		is(t, "the changes that were handed in", memory(l), before)
		spoilChanges(l)
		f.Crash(100, 1000)
		_, _, opened := journal.Open(f, "tx")
		isError(t, "Open", opened, api.OK)
		if files := told(f.Files()); files != "a=new c=" && (files != "b=old" || e == api.OK) {
			t.Errorf("armed for %d: %s", step, brief(files))
		}
		if e == api.OK {
			return
		}
	}
}

func TestP9_5_BytesHandedIn(t *testing.T) {
	s := modelBytes(write("a", "x"), drop("b"), write("c", "yz"))
	for n := range len(s) + 1 {
		// What lies behind the bytes would make them whole.
		b := roomy([]byte(s), roomByte)[:n]
		before := bytes.Clone(whole(b))
		l, ok := journal.Decode(b)
		is(t, "Decode", ok, n == len(s))
		isBytes(t, "the bytes that were handed in", whole(b), before)
		spoil(b, spoiltByte)
		if ok {
			is(t, "Decode, the bytes spoilt", toldChanges(l), toldChanges(changes(write("a", "x"), drop("b"), write("c", "yz"))))
		}
	}
}

func TestP9_5_ListsHandedOut(t *testing.T) {
	l := changes(write("a", "x"), drop("b"), write("c", ""), write("d", "yz"), write("e", "much more than that is"))
	b, _ := journal.Encode(l)
	other, _ := journal.Encode(l)
	want := bytes.Clone(whole(other))
	spoil(b, spoiltByte)
	isBytes(t, "Encode's other answer", whole(other), want)

	first, _ := journal.Decode(other)
	second, _ := journal.Decode(other)
	before := memory(second)
	for i := range first {
		rest := memory(slices.Concat(first[:i], first[i+1:]))
		spoil(first[i].Data, spoiltByte)
		_ = append(first[i].Data, spoiltByte, spoiltByte)
		is(t, "the other data of the answer", memory(slices.Concat(first[:i], first[i+1:])), rest)
	}
	spoil(first, write("spoilt", "spoilt"))
	is(t, "Decode's other answer", memory(second), before)
	isBytes(t, "the bytes that were handed in", whole(other), want)
	third, ok := journal.Decode(other)
	is(t, "Decode, asked again", ok, true)
	is(t, "Decode, asked again", toldChanges(third), toldChanges(l))
}

// The journal keeps f: what is done to f is done to what it works on.
func TestP9_5_KeepsTheFiles(t *testing.T) {
	f := fs.New(1000)
	j := opens(t, "new", f, 0)
	lay(t, f, "a", "x", "b", "y")
	g := f.Copy()
	isError(t, "Apply", j.Apply(changes(drop("a"))), api.OK)
	is(t, "Files", told(f.Files()), "b=y")
	is(t, "Files of a copy", told(g.Files()), "a=x b=y")
	is(t, "File, asked again", j.File(), file)
}
