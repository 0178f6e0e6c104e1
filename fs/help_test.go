package fs_test

import (
	"fmt"
	"strings"
	"testing"

	"mews/api"
	"mews/fs"
)

// is fails the test unless got is want.
func is[T comparable](t *testing.T, what string, got, want T) {
	t.Helper()
	if got != want {
		t.Errorf("%s: %v, not %v", what, got, want)
	}
}

// told is files as one text.
func told(files []api.File) string {
	var parts []string
	for _, f := range files {
		parts = append(parts, f.Name+"="+string(f.Data))
	}
	return strings.Join(parts, " ")
}

// count is how many bytes files have.
func count(files []api.File) int {
	sum := 0
	for _, f := range files {
		sum += len(f.Data)
	}
	return sum
}

// done is a write that the test takes for granted.
func done(t *testing.T, e api.Errno) {
	t.Helper()
	if e != api.OK {
		t.Fatalf("error %d, not OK", e)
	}
}

// write lays texts under names: name, text, name, text ...
func write(t *testing.T, f *fs.FS, pairs ...string) {
	t.Helper()
	for i := 0; i < len(pairs); i += 2 {
		done(t, f.Write(pairs[i], []byte(pairs[i+1])))
	}
}

// crashed is the files behind a crash of a copy.
func crashed(f *fs.FS, names, bytes int) string {
	g := f.Copy()
	g.Crash(names, bytes)
	return told(g.Files())
}

// arms tells how many writes a file system is armed for, 0 if for none up to 20.
func arms(f *fs.FS) int {
	if f.Down() {
		return 0
	}
	g := f.Copy()
	for n := range 20 {
		if g.SyncDir("no/such") == api.ErrDown {
			return n + 1
		}
	}
	return 0
}

// state is everything that can be told of a file system, with what each crash
// of at most six pending changes would leave.
func state(f *fs.FS) string {
	var b strings.Builder
	fmt.Fprintln(&b, told(f.Files()), "|", told(f.Durable()), "|", f.List(""))
	fmt.Fprintln(&b, f.Size(), f.Quota(), f.Steps(), f.Down(), arms(f))
	for names := range 7 {
		for bytes := range 5 {
			fmt.Fprintln(&b, crashed(f, names, bytes))
		}
	}
	return b.String()
}

// call is a call of a write, with a text that tells it.
type call struct {
	text string
	do   func(f *fs.FS) api.Errno
}

func writeCall(name, data string) call {
	return call{fmt.Sprintf("Write(%q, %q)", name, data), func(f *fs.FS) api.Errno { return f.Write(name, []byte(data)) }}
}

func appendCall(name, data string) call {
	return call{fmt.Sprintf("Append(%q, %q)", name, data), func(f *fs.FS) api.Errno { return f.Append(name, []byte(data)) }}
}

func syncCall(name string) call {
	return call{fmt.Sprintf("Sync(%q)", name), func(f *fs.FS) api.Errno { return f.Sync(name) }}
}

func renameCall(from, to string) call {
	return call{fmt.Sprintf("Rename(%q, %q)", from, to), func(f *fs.FS) api.Errno { return f.Rename(from, to) }}
}

func removeCall(name string) call {
	return call{fmt.Sprintf("Remove(%q)", name), func(f *fs.FS) api.Errno { return f.Remove(name) }}
}

func syncDirCall(dir string) call {
	return call{fmt.Sprintf("SyncDir(%q)", dir), func(f *fs.FS) api.Errno { return f.SyncDir(dir) }}
}
