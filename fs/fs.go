// Package fs: a stand-in file system: see ../shared/doc/01-fs.md.
package fs

import (
	"bytes"
	"maps"
	"slices"
	"strings"

	"mews/api"
)

// FS is files by name.
//
// The durable names are always what the names once were, and the pending
// changes lead from there to what they are now. A file that has lost its name
// never gets one again; so one that loses its durable name is needed no more.
type FS struct {
	quota   int
	files   map[int]*file
	newest  int
	names   table
	durable table
	pending []change
	size    int
	steps   int
	armed   int
	down    bool
}

// New makes a file system without files.
func New(quota int) *FS {
	return &FS{
		quota:   min(max(quota, 0), api.MaxQuota),
		files:   map[int]*file{},
		newest:  noFile,
		names:   table{},
		durable: table{},
	}
}

// Write gives a name a new file.
func (f *FS) Write(name string, data []byte) api.Errno {
	if e := f.begin(f.writeError(name, len(data))); e != api.OK {
		return e
	}
	f.newest++
	f.files[f.newest] = &file{data: bytes.Clone(data)}
	f.size += len(data)
	f.alter(put(name, f.newest))
	return api.OK
}

// writeError is Write's own error.
func (f *FS) writeError(name string, length int) api.Errno {
	if !Valid(name) {
		return api.ErrName
	}
	size, count := f.size+length, len(f.names)
	if old := f.file(name); old != nil {
		size -= len(old.data)
	} else {
		count++
	}
	if size > f.quota || count > api.MaxFiles {
		return api.ErrQuota
	}
	return api.OK
}

// Append lays bytes at a file's end.
func (f *FS) Append(name string, data []byte) api.Errno {
	if e := f.begin(f.appendError(name, len(data))); e != api.OK {
		return e
	}
	old := f.file(name)
	old.data = append(old.data, data...)
	f.size += len(data)
	return api.OK
}

// appendError is Append's own error.
func (f *FS) appendError(name string, length int) api.Errno {
	if !f.Has(name) {
		return api.ErrNone
	}
	if f.size+length > f.quota {
		return api.ErrQuota
	}
	return api.OK
}

// Sync makes a file's bytes durable.
func (f *FS) Sync(name string) api.Errno {
	if e := f.begin(f.noneError(name)); e != api.OK {
		return e
	}
	old := f.file(name)
	old.durable = len(old.data)
	return api.OK
}

// Rename gives a file another name.
func (f *FS) Rename(from, to string) api.Errno {
	if e := f.begin(f.renameError(from, to)); e != api.OK {
		return e
	}
	if from != to {
		f.alter(move(from, to))
	}
	return api.OK
}

// renameError is Rename's own error.
func (f *FS) renameError(from, to string) api.Errno {
	if !f.Has(from) {
		return api.ErrNone
	}
	if !Valid(to) {
		return api.ErrName
	}
	return api.OK
}

// Remove takes a name away.
func (f *FS) Remove(name string) api.Errno {
	if e := f.begin(f.noneError(name)); e != api.OK {
		return e
	}
	f.alter(drop(name))
	return api.OK
}

// SyncDir makes a directory's names durable.
func (f *FS) SyncDir(dir string) api.Errno {
	if e := f.begin(syncDirError(dir)); e != api.OK {
		return e
	}
	last := len(f.pending)
	for last > 0 && f.pending[last-1].dir != dir {
		last--
	}
	f.settle(last)
	return api.OK
}

// syncDirError is SyncDir's own error.
func syncDirError(dir string) api.Errno {
	if dir != "" && !Valid(dir) {
		return api.ErrName
	}
	return api.OK
}

// noneError is the own error of the writes that only ask for a file.
func (f *FS) noneError(name string) api.Errno {
	if !f.Has(name) {
		return api.ErrNone
	}
	return api.OK
}

// begin counts a write that may be done; own is the write's own error. Any
// answer but OK says that the write is not to be done.
func (f *FS) begin(own api.Errno) api.Errno {
	if f.down {
		return api.ErrDown
	}
	if own != api.OK {
		return own
	}
	if f.armed == 1 {
		f.armed, f.down = 0, true
		return api.ErrDown
	}
	f.armed = max(f.armed-1, 0)
	f.steps++
	return api.OK
}

// alter does a change to the names; it is pending from then on.
func (f *FS) alter(c change) {
	if old := c.do(f.names); old != noFile {
		f.size -= len(f.files[old].data)
	}
	f.pending = append(f.pending, c)
}

// settle does the first pending changes to the durable names.
func (f *FS) settle(count int) {
	for _, c := range f.pending[:count] {
		delete(f.files, c.do(f.durable))
	}
	f.pending = slices.Delete(f.pending, 0, count)
}

// file is the file that has a name, or nil.
func (f *FS) file(name string) *file { return f.files[f.names[name]] }

// Read is a file's bytes.
func (f *FS) Read(name string) ([]byte, api.Errno) {
	if !f.Has(name) {
		return nil, api.ErrNone
	}
	return bytes.Clone(f.file(name).data), api.OK
}

// Has tells whether there is a file.
func (f *FS) Has(name string) bool { return f.names[name] != noFile }

// List tells the names in a directory, and below.
func (f *FS) List(dir string) []string {
	names := f.names.sorted()
	if dir == "" {
		return names
	}
	inside, prefix := []string{}, dir+"/"
	for _, name := range names {
		if strings.HasPrefix(name, prefix) {
			inside = append(inside, name)
		}
	}
	return inside
}

// Files tells the files.
func (f *FS) Files() []api.File {
	files := make([]api.File, 0, len(f.names))
	for _, name := range f.names.sorted() {
		files = append(files, api.File{Name: name, Data: bytes.Clone(f.file(name).data)})
	}
	return files
}

// Durable tells what a crash would leave.
func (f *FS) Durable() []api.File {
	files := make([]api.File, 0, len(f.durable))
	for _, name := range f.durable.sorted() {
		front := f.files[f.durable[name]].front()
		files = append(files, api.File{Name: name, Data: bytes.Clone(front)})
	}
	return files
}

// Size tells how many bytes there are.
func (f *FS) Size() int { return f.size }

// Quota tells how many bytes fit in.
func (f *FS) Quota() int { return f.quota }

// Steps tells how many writes were done.
func (f *FS) Steps() int { return f.steps }

// Arm lets a write fail.
func (f *FS) Arm(n int) { f.armed = max(n, 0) }

// Down tells whether it is down.
func (f *FS) Down() bool { return f.down }

// Crash takes away what isn't durable.
func (f *FS) Crash(names, bytes int) {
	f.settle(min(max(names, 0), len(f.pending)))
	f.pending = nil
	f.names = maps.Clone(f.durable)
	named := map[int]*file{}
	f.size = 0
	for _, number := range f.names {
		kept := f.files[number]
		kept.crash(bytes)
		named[number] = kept
		f.size += len(kept.data)
	}
	f.files = named
	f.armed, f.down = 0, false
}

// Copy is another one, the same.
func (f *FS) Copy() *FS {
	other := *f
	other.files = map[int]*file{}
	for number, old := range f.files {
		other.files[number] = old.copy()
	}
	other.names = maps.Clone(f.names)
	other.durable = maps.Clone(f.durable)
	other.pending = slices.Clone(f.pending)
	return &other
}
