package ark_test

import (
	"bytes"
	"fmt"
	"slices"
	"strings"
	"testing"

	"mews/api"
	"mews/ark"
)

// brief is how something is told where a test fails.
func brief(v any) string { return fmt.Sprintf("%.300s", fmt.Sprintf("%q", fmt.Sprint(v))) }

// told is files in short: they may be long, and many.
func told(files []api.File) string {
	text := fmt.Sprint(len(files), " files")
	for _, f := range files[:min(len(files), 8)] {
		text += fmt.Sprintf(" %.40q=%.20q(%d)", f.Name, f.Data, len(f.Data))
	}
	return text
}

// is fails the test unless got is want.
func is[T comparable](t *testing.T, what string, got, want T) {
	t.Helper()
	if got != want {
		t.Errorf("%s: %s, not %s", what, brief(got), brief(want))
	}
}

// isBytes fails the test unless got is want; nil and the empty list are the same.
func isBytes(t *testing.T, what string, got, want []byte) {
	t.Helper()
	if !bytes.Equal(got, want) {
		t.Errorf("%s: %.200x, not %.200x", what, got, want)
	}
}

// same tells whether two lists have the same files in the same order.
func same(a, b []api.File) bool {
	return slices.EqualFunc(a, b, func(a, b api.File) bool { return a.Name == b.Name && bytes.Equal(a.Data, b.Data) })
}

// areFiles fails the test unless got is want.
func areFiles(t *testing.T, what string, got, want []api.File) {
	t.Helper()
	if !same(got, want) {
		t.Errorf("%s: %s, not %s", what, told(got), told(want))
	}
}

func file(name, data string) api.File { return api.File{Name: name, Data: []byte(data)} }

// named is files of these names, each with bytes of its own.
func named(names ...string) []api.File {
	var files []api.File
	for i, name := range names {
		files = append(files, file(name, fmt.Sprint("data ", i)))
	}
	return files
}

// many is so many files of valid names, that come rising.
func many(count int) []api.File {
	var files []api.File
	for i := range count {
		files = append(files, file(fmt.Sprintf("f%05d", i), fmt.Sprint(i)))
	}
	return files
}

// module is a module, written `path version`.
func module(s string) api.Mod {
	path, version, _ := strings.Cut(s, " ")
	return api.Mod{Path: path, Version: version}
}

// packed is the archive of files that the test takes for good.
func packed(t *testing.T, files ...api.File) []byte {
	t.Helper()
	b, e := ark.Pack(files)
	if e != api.OK {
		t.Fatalf("Pack(%s): error %d, not OK", told(files), e)
	}
	return b
}

// packs fails the test unless Pack answers the archive.
func packs(t *testing.T, files []api.File, want []byte) {
	t.Helper()
	b, e := ark.Pack(files)
	is(t, "Pack("+told(files)+"), its error", e, api.OK)
	isBytes(t, "Pack("+told(files)+")", b, want)
}

// packsNot fails the test unless Pack answers the error, and nothing beside it.
func packsNot(t *testing.T, files []api.File, want api.Errno) {
	t.Helper()
	b, e := ark.Pack(files)
	is(t, "Pack("+told(files)+"), its error", e, want)
	isBytes(t, "Pack("+told(files)+")", b, nil)
}

// unpacks fails the test unless Unpack answers the files.
func unpacks(t *testing.T, what string, b []byte, want []api.File) {
	t.Helper()
	files, e := ark.Unpack(b)
	is(t, "Unpack of "+what+", its error", e, api.OK)
	areFiles(t, "Unpack of "+what, files, want)
}

// unpacksNot fails the test unless Unpack answers the error, and nothing beside it.
func unpacksNot(t *testing.T, what string, b []byte, want api.Errno) {
	t.Helper()
	files, e := ark.Unpack(b)
	is(t, "Unpack of "+what+", its error", e, want)
	areFiles(t, "Unpack of "+what, files, nil)
}

// sums fails the test unless H1 answers so.
func sums(t *testing.T, files []api.File, want string, wantE api.Errno) {
	t.Helper()
	sum, e := ark.H1(files)
	is(t, "H1("+told(files)+"), its error", e, wantE)
	is(t, "H1("+told(files)+")", sum, want)
}

// strips fails the test unless Strip answers so.
func strips(t *testing.T, files []api.File, m api.Mod, want []api.File, wantE api.Errno) {
	t.Helper()
	got, e := ark.Strip(files, m)
	is(t, "Strip("+told(files)+"), its error", e, wantE)
	areFiles(t, "Strip("+told(files)+")", got, want)
}

// joined is byte texts one behind the other.
func joined(parts ...[]byte) []byte { return slices.Concat(parts...) }

// changed is a copy with one byte set.
func changed(b []byte, place int, c byte) []byte {
	b = bytes.Clone(b)
	b[place] = c
	return b
}

// inserted is a copy with something more at a place.
func inserted(b []byte, place int, more ...byte) []byte {
	return slices.Insert(bytes.Clone(b), place, more...)
}
