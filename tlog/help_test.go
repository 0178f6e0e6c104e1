package tlog_test

import (
	"bytes"
	"fmt"
	"math"
	"slices"
	"sync"
	"testing"

	"mews/api"
	"mews/tlog"
)

// brief is how something is told where a test fails.
func brief(v any) string { return fmt.Sprintf("%.300s", fmt.Sprintf("%+v", v)) }

// is fails the test unless got is want.
func is[T comparable](t *testing.T, what string, got, want T) {
	t.Helper()
	if got != want {
		t.Errorf("%s: %s, not %s", what, brief(got), brief(want))
	}
}

// isBytes fails the test unless got is want; nil and the empty list are the same.
func isBytes(t *testing.T, what string, got, want []byte) {
	t.Helper()
	if !bytes.Equal(got, want) {
		t.Errorf("%s: %.200x, not %.200x", what, got, want)
	}
}

// areHashes fails the test unless got is want.
func areHashes(t *testing.T, what string, got, want [][]byte) {
	t.Helper()
	if !slices.EqualFunc(got, want, bytes.Equal) {
		t.Errorf("%s: %.300s, not %.300s", what, fmt.Sprintf("%d %x", len(got), got), fmt.Sprintf("%d %x", len(want), want))
	}
}

// areList fails the test unless got is want.
func areList[T comparable](t *testing.T, what string, got, want []T) {
	t.Helper()
	if !slices.Equal(got, want) {
		t.Errorf("%s: %d %s, not %d %s", what, len(got), brief(got), len(want), brief(want))
	}
}

// answersBytes fails the test unless a call that answers bytes answered so.
func answersBytes(t *testing.T, what string, got []byte, e api.Errno, want []byte, wantE api.Errno) {
	t.Helper()
	is(t, what+", its error", e, wantE)
	isBytes(t, what, got, want)
}

// answersHashes fails the test unless a call that answers a proof answered so.
func answersHashes(t *testing.T, what string, got [][]byte, e api.Errno, want [][]byte, wantE api.Errno) {
	t.Helper()
	is(t, what+", its error", e, wantE)
	areHashes(t, what, got, want)
}

// record is the i-th record's bytes; there are empty ones and long ones.
func record(i int) []byte {
	if i%7 == 3 {
		return nil
	}
	return bytes.Repeat([]byte(fmt.Sprint("record ", i, ";")), i%9+1)
}

// records is the first n of them.
func records(n int) [][]byte {
	list := make([][]byte, n)
	for i := range list {
		list[i] = record(i)
	}
	return list
}

// made is a log of the first n of them.
func made(t *testing.T, n int) *tlog.Log {
	t.Helper()
	l := tlog.New()
	for i := range n {
		if number, e := l.Append(record(i)); number != i || e != api.OK {
			t.Fatalf("Append of record %d: %d, error %d", i, number, e)
		}
	}
	return l
}

// full is a log of as many records as there may be: it is made once, as that
// takes long, and no test may change it.
var full = sync.OnceValue(func() *tlog.Log {
	l := tlog.New()
	for i := range api.MaxRecords {
		l.Append([]byte{byte(i), byte(i >> 8), byte(i >> 16)})
	}
	return l
})

// edges is numbers at which something ends, and the greatest and least ones.
func edges() []int {
	return []int{
		math.MinInt, math.MinInt + 1, math.MinInt32, -api.MaxRecords - 1, -api.MaxRecords, -256, -64, -63, -21, -20, -9, -8, -2, -1,
		0, 1, 2, 3, 4, 5, 7, 8, 9, 19, 20, 21, 31, 32, 33, 62, 63, 64, 65, 127, 128, 255, 256, 257,
		api.MaxRecords/2 - 1, api.MaxRecords / 2, api.MaxRecords/2 + 1, api.MaxRecords - 1, api.MaxRecords, api.MaxRecords + 1,
		2*api.MaxRecords - 2, 2*api.MaxRecords - 1, 2 * api.MaxRecords, math.MaxInt32, math.MaxInt32 + 1, math.MaxUint32, math.MaxUint32 + 1,
		1 << 55, 1 << 56, 1 << 60, 1 << 61, 1<<62 - 1, 1 << 62, 1<<62 + 1, math.MaxInt - 1, math.MaxInt,
	}
}

// turned is a copy of a text with one byte turned.
func turned(b []byte, place int) []byte {
	b = bytes.Clone(b)
	b[place] ^= 1 << (place % 8)
	return b
}

// with is a copy of a list with another thing at a place.
func with[T any](list []T, place int, thing T) []T {
	list = slices.Clone(list)
	list[place] = thing
	return list
}
