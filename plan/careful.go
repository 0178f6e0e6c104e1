package plan

import (
	"bytes"
	"slices"

	"mews/api"
)

// careful asks another universe. What that answers is memory of its own, so it
// is copied as soon as it is there.
type careful struct{ u Universe }

// Versions tells a module's versions.
func (c careful) Versions(path string) ([]string, api.Errno) {
	return asked(func() ([]string, api.Errno) {
		versions, e := c.u.Versions(path)
		return slices.Clone(versions), e
	})
}

// Manifest is a module's manifest.
func (c careful) Manifest(m api.Mod) ([]byte, api.Errno) {
	return asked(func() ([]byte, api.Errno) {
		text, e := c.u.Manifest(m)
		return bytes.Clone(text), e
	})
}

// Tree is a module's files.
func (c careful) Tree(m api.Mod) ([]api.File, api.Errno) {
	return asked(func() ([]api.File, api.Errno) {
		files, e := c.u.Tree(m)
		return copied(files), e
	})
}

// asked is what a universe answers, with nothing beside an error. No call of
// this package panics, so a universe that does, or is nil, is an error.
func asked[V any](ask func() (V, api.Errno)) (v V, e api.Errno) {
	defer func() {
		if recover() != nil {
			e = api.ErrRange
		}
	}()
	got, e := ask()
	if e == api.OK {
		v = got
	}
	return v, e
}
