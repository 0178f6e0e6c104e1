package journal_test

import (
	"fmt"
	"math/rand"
	"strings"
	"testing"

	"mews/api"
	"mews/journal"
)

// decodes fails the test unless Decode tells these changes.
func decodes(t *testing.T, what, s string, want ...journal.Change) {
	t.Helper()
	got, ok := journal.Decode([]byte(s))
	is(t, "Decode, "+what, ok, true)
	is(t, "Decode, "+what, toldChanges(got), toldChanges(want))
}

// decodesNot fails the test unless Decode tells that there is nothing.
func decodesNot(t *testing.T, what, s string) {
	t.Helper()
	if got, ok := journal.Decode([]byte(s)); ok || len(got) != 0 {
		t.Errorf("Decode, %s: %s, %t", what, toldChanges(got), ok)
	}
}

func TestP9_2_Changes(t *testing.T) {
	long := strings.Repeat("n", api.MaxName)
	decodes(t, "no change", modelCommit(0))
	decodes(t, "a write", modelRecord(1, "a/b", "xy")+modelCommit(1), write("a/b", "xy"))
	decodes(t, "a drop", modelRecord(2, "a/b", "")+modelCommit(1), drop("a/b"))
	decodes(t, "empty data", modelRecord(1, "a", "")+modelCommit(1), write("a", ""))
	decodes(t, "all, in order", modelRecord(1, "c", "x")+modelRecord(2, "b", "")+modelRecord(1, "a", "y")+modelCommit(3), write("c", "x"), drop("b"), write("a", "y"))
	decodes(t, "the greatest name", modelRecord(1, long, "x")+modelCommit(1), write(long, "x"))
	decodes(t, "data that are a journal", modelBytes(write("a", modelCommit(0))), write("a", modelCommit(0)))
	decodes(t, "MaxChanges", modelBytes(someWrites(api.MaxChanges, "d", "x")...), someWrites(api.MaxChanges, "d", "x")...)
	decodes(t, "much data", modelBytes(write("a", strings.Repeat("x", 1<<17))), write("a", strings.Repeat("x", 1<<17)))
}

func TestP9_2_BehindTheCommit(t *testing.T) {
	s := modelBytes(write("a", "x"), drop("b"))
	for _, behind := range []string{"\x00", "rest", s, modelCommit(0), modelRecord(1, "a", "again"), modelRecord(4, "/", ""), strings.Repeat("\xff", 100)} {
		decodes(t, "with "+brief(behind)+" behind", s+behind, write("a", "x"), drop("b"))
	}
	decodes(t, "none, with changes behind", modelCommit(0)+modelBytes(write("a", "x")))
}

func TestP9_2_Ends(t *testing.T) {
	decodesNot(t, "nothing", "")
	decodesNot(t, "no commit", modelRecord(1, "a", "x"))
	decodesNot(t, "no commit, a drop", modelRecord(2, "a", ""))
	for _, l := range [][]journal.Change{nil, changes(write("a/b", "xyz")), changes(drop("a"), write("b", ""), write("c", "y"))} {
		s := modelBytes(l...)
		for n := range len(s) {
			decodesNot(t, fmt.Sprint(n, " bytes of ", brief(s)), s[:n])
		}
	}
}

func TestP9_2_Lengths(t *testing.T) {
	for _, length := range []uint32{0, 1, 2, 3, 6, 8, 1 << 16, 1<<31 - 1, 1 << 31, 1<<32 - 8, 1<<32 - 1} {
		s := modelCommit(0)
		decodesNot(t, fmt.Sprint("a commit's length ", length), four(length)+s[4:])
		s = modelBytes(write("a", "xy"))
		if length != 6 {
			decodesNot(t, fmt.Sprint("a write's length ", length), four(length)+s[4:])
		}
	}
}

// CRCs that are right, of bodies that are not.
func TestP9_2_Bodies(t *testing.T) {
	for _, body := range []string{"", "\x01", "\x01\x01", "\x02\x00", "\x03", "\x03\x00"} {
		decodesNot(t, "the body "+brief(body), framed(body)+modelCommit(1))
		decodesNot(t, "the body "+brief(body)+" alone", framed(body))
	}
	for _, kind := range []byte{1, 2} {
		front := string([]byte{kind})
		for _, more := range []int{1, 2, 255, 256, 65534} {
			decodesNot(t, fmt.Sprint("a name's length that is greater by ", more), framed(front+two(uint16(1+more))+"a")+modelCommit(1))
		}
		decodesNot(t, "a name's length, the high byte first", framed(front+"\x00\x01a")+modelCommit(1))
	}
	decodes(t, "a name's length that is less", framed("\x01\x01\x00abc")+modelCommit(1), write("a", "bc"))
	decodesNot(t, "a name's length that goes into the next record", framed("\x01\x10\x00a")+modelRecord(1, "b", "")+modelCommit(2))
}

func TestP9_2_CRCs(t *testing.T) {
	right := modelRecord(1, "a", "xy")
	for bit := range 32 {
		for place, s := range []string{right + modelCommit(1), modelCommit(0)} {
			b := []byte(s)
			b[4+bit/8] ^= 1 << (bit % 8)
			decodesNot(t, fmt.Sprint("the bit ", bit, " of a CRC turned, ", place), string(b))
		}
	}
	decodesNot(t, "a CRC of nought", right[:4]+"\x00\x00\x00\x00"+right[8:]+modelCommit(1))
	decodesNot(t, "a CRC with the high byte first", right[:4]+string([]byte{right[7], right[6], right[5], right[4]})+right[8:]+modelCommit(1))
}

func TestP9_2_Kinds(t *testing.T) {
	for kind := range 256 {
		if kind < 1 || 3 < kind {
			decodesNot(t, fmt.Sprint("the kind ", kind), modelRecord(byte(kind), "a", "")+modelCommit(1))
			decodesNot(t, fmt.Sprint("the kind ", kind, ", with data"), modelRecord(byte(kind), "a", "x")+modelCommit(1))
			decodesNot(t, fmt.Sprint("the kind ", kind, " behind another"), modelRecord(1, "b", "x")+modelRecord(byte(kind), "a", "")+modelCommit(2))
			decodesNot(t, fmt.Sprint("the kind ", kind, " as a commit"), modelRecord(byte(kind), "", four(0)))
			decodesNot(t, fmt.Sprint("the kind ", kind, " that is not counted"), modelRecord(byte(kind), "a", "")+modelCommit(0))
		}
	}
	decodesNot(t, "a drop with data", modelRecord(2, "a", "x")+modelCommit(1))
	decodesNot(t, "a drop with a zero", modelRecord(2, "a", "\x00")+modelCommit(1))
}

func TestP9_2_Commits(t *testing.T) {
	front := modelRecord(1, "a", "x") + modelRecord(2, "b", "")
	for _, count := range []uint32{0, 1, 3, 258, 1<<16 + 2, 1<<24 + 2, 2 << 24, 1<<31 + 2, 1<<32 - 1} {
		decodesNot(t, fmt.Sprint("two changes, the number ", count), front+modelCommit(count))
	}
	for _, count := range []uint32{1, 256, 1 << 16, 1 << 24, 1<<32 - 1} {
		decodesNot(t, fmt.Sprint("no change, the number ", count), modelCommit(count))
	}
	for _, data := range []string{"", "\x02", "\x02\x00", "\x02\x00\x00", "\x02\x00\x00\x00\x00", "\x02\x00\x00\x00\x00\x00\x00\x00"} {
		decodesNot(t, "a commit's data "+brief(data), front+modelRecord(3, "", data))
	}
	decodesNot(t, "a commit with a name", front+modelRecord(3, "a", four(2)))
	decodesNot(t, "a commit with a name of no letter", front+modelRecord(3, "\x00", four(2)))
	decodesNot(t, "a commit whose name is its number", front+modelRecord(3, four(2), ""))
	decodesNot(t, "a right commit behind a wrong one", front+modelCommit(1)+modelCommit(2))
	decodesNot(t, "a right commit behind one with a name", front+modelRecord(3, "a", four(2))+modelCommit(2))
}

func TestP9_2_WhatEncodeRefuses(t *testing.T) {
	for _, name := range noNames() {
		if len(name) < 1<<16 {
			decodesNot(t, "a write of "+brief(name), modelBytes(write(name, "x")))
			decodesNot(t, "a drop of "+brief(name), modelBytes(drop(name)))
			decodesNot(t, "the last of three is "+brief(name), modelBytes(write("a", "x"), drop("b"), drop(name)))
		}
	}
	decodesNot(t, "a name twice", modelBytes(write("a", "x"), write("a", "x")))
	decodesNot(t, "a write and a drop of one name", modelBytes(write("a", "x"), drop("b"), drop("a")))
	decodesNot(t, "a drop and a write of one name", modelBytes(drop("a"), write("a", "x")))
	decodesNot(t, "one more than MaxChanges", modelBytes(someWrites(api.MaxChanges+1, "d", "")...))
	decodesNot(t, "many more than MaxChanges", modelBytes(someWrites(3*api.MaxChanges, "d", "")...))
}

func TestP9_2_EachByteTurned(t *testing.T) {
	s := modelBytes(write("a/b", "xy"), drop("c"), write("d", ""))
	for place := range len(s) {
		for c := range 256 {
			if byte(c) != s[place] {
				decodesNot(t, fmt.Sprint("the byte ", place, " is ", c), s[:place]+string([]byte{byte(c)})+s[place+1:])
			}
		}
	}
}

func TestP9_2_Model(t *testing.T) {
	chance := rand.New(rand.NewSource(92))
	drawn := map[bool]int{}
	for range 8000 {
		s := modelBytes(drawLoose(chance)...)
		if chance.Intn(2) == 0 {
			s = spoilt(chance, s)
		}
		want, right := modelDecode(s)
		got, ok := journal.Decode([]byte(s))
		is(t, "Decode of "+brief(s), ok, right)
		is(t, "Decode of "+brief(s), toldChanges(got), toldChanges(want))
		drawn[ok]++
	}
	if drawn[true] < 1000 || drawn[false] < 1000 {
		t.Errorf("drawn: %v", drawn)
	}
}
