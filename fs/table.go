package fs

import (
	"bytes"
	"slices"
)

// file is bytes, of which the first durable ones outlive every crash.
type file struct {
	data    []byte
	durable int
}

// front is what of the file is durable.
func (f *file) front() []byte { return f.data[:f.durable] }

// crash leaves the durable front and at most extra bytes behind it.
func (f *file) crash(extra int) {
	f.durable += min(max(extra, 0), len(f.data)-f.durable)
	f.data = f.front()
}

// copy is another file, the same.
func (f *file) copy() *file {
	return &file{data: bytes.Clone(f.data), durable: f.durable}
}

// noFile is the number that no file has; a table answers it for a name that it doesn't have.
const noFile = 0

// table says which file has which name. Files stand in it by number, not by
// pointer: a copied file system numbers its files alike, so that the pending
// changes it takes over work on its own files.
type table map[string]int

// sorted is the names of a table, rising.
func (t table) sorted() []string {
	names := make([]string, 0, len(t))
	for name := range t {
		names = append(names, name)
	}
	slices.Sort(names)
	return names
}

// change is a change of names in a directory. It is done to the names at once
// and to the durable names later. What do answers is the file that loses its
// name by it, or noFile.
type change struct {
	dir string
	do  func(t table) int
}

// put gives a name to a new file.
func put(name string, number int) change {
	return change{Dir(name), func(t table) int {
		old := t[name]
		t[name] = number
		return old
	}}
}

// move gives a file another name.
func move(from, to string) change {
	return change{Dir(to), func(t table) int {
		old := t[to]
		t[to] = t[from]
		delete(t, from)
		return old
	}}
}

// drop takes a name away.
func drop(name string) change {
	return change{Dir(name), func(t table) int {
		old := t[name]
		delete(t, name)
		return old
	}}
}
