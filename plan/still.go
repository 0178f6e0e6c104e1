package plan

import (
	"bytes"

	"mews/api"
	"mews/mod"
)

// Sold is a module that there is.
type Sold struct {
	Mod      api.Mod
	Manifest []byte
	Files    []api.File
}

// Still is a universe of plain data.
type Still struct {
	sold     map[api.Mod]Sold
	versions map[string][]string // by the paths that are sold, but for pseudo-versions
}

// NewStill makes a universe.
func NewStill(l []Sold) (*Still, api.Errno) {
	s := &Still{map[api.Mod]Sold{}, map[string][]string{}}
	for _, one := range l {
		if e := mod.Check(one.Mod); e != api.OK {
			return nil, e
		}
		if _, there := s.sold[one.Mod]; there {
			return nil, api.ErrThere
		}
		s.add(one)
	}
	return s, api.OK
}

func (s *Still) add(one Sold) {
	m := one.Mod
	s.sold[m] = Sold{m, bytes.Clone(one.Manifest), copied(one.Files)}
	versions := s.versions[m.Path]
	if _, _, _, pseudo := mod.SplitPseudo(m.Version); !pseudo {
		versions = append(versions, m.Version)
	}
	s.versions[m.Path] = versions
}

// Versions tells a module's versions.
func (s *Still) Versions(path string) ([]string, api.Errno) {
	versions, there := s.versions[path]
	if !there {
		return nil, api.ErrNone
	}
	return mod.Sort(versions), api.OK
}

// Manifest is a module's manifest.
func (s *Still) Manifest(m api.Mod) ([]byte, api.Errno) {
	one, there := s.sold[m]
	if !there {
		return nil, api.ErrNone
	}
	return bytes.Clone(one.Manifest), api.OK
}

// Tree is a module's files.
func (s *Still) Tree(m api.Mod) ([]api.File, api.Errno) {
	one, there := s.sold[m]
	if !there {
		return nil, api.ErrNone
	}
	return copied(one.Files), api.OK
}
