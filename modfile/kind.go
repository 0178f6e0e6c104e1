package modfile

import (
	"cmp"
	"slices"
	"sort"

	"mews/api"
	"mews/mod"
)

// kind says what the elements of one of a manifest's lists are.
type kind[T any] struct {
	read  func(l line) (T, bool)    // of a statement without its word
	write func(element T) string    // the statement without its word
	check func(element T) api.Errno // Check's error of one alone
	same  func(a, b T) bool         // whether a list has only one of both
	less  func(a, b T) bool
}

// requires are those of a module, which does not require itself. Where the
// module is not known yet, it is the empty text, which no path is.
func requires(module string) kind[Require] {
	return kind[Require]{
		read:  readRequire,
		write: writeRequire,
		check: func(r Require) api.Errno {
			if e := mod.Check(api.Mod{Path: r.Path, Version: r.Version}); e != api.OK {
				return e
			}
			if r.Path == module {
				return api.ErrTwice
			}
			return api.OK
		},
		same: func(a, b Require) bool { return a.Path == b.Path },
		less: func(a, b Require) bool { return a.Path < b.Path },
	}
}

func excludes() kind[api.Mod] {
	return kind[api.Mod]{
		read:  readMod,
		write: writeMod,
		check: mod.Check,
		same:  func(a, b api.Mod) bool { return a == b },
		less:  mod.Less,
	}
}

func replaces() kind[Replace] {
	return kind[Replace]{
		read:  readReplace,
		write: writeReplace,
		check: checkReplace,
		same:  func(a, b Replace) bool { return a.Old == b.Old },
		less:  func(a, b Replace) bool { return mod.Less(a.Old, b.Old) },
	}
}

// checkReplace asks only the path of an Old without a version: mod.Check would
// want one.
func checkReplace(r Replace) api.Errno {
	old := mod.CheckPath(r.Old.Path)
	if r.Old.Version != "" {
		old = mod.Check(r.Old)
	}
	return cmp.Or(old, mod.Check(r.New))
}

func retracts() kind[Retract] {
	return kind[Retract]{
		read:  readRetract,
		write: writeRetract,
		check: checkRetract,
		same:  func(a, b Retract) bool { return a == b },
		less: func(a, b Retract) bool {
			return cmp.Or(mod.Compare(a.Low, b.Low), mod.Compare(a.High, b.High)) < 0
		},
	}
}

func checkRetract(r Retract) api.Errno {
	if !mod.ValidVersion(r.Low) || !mod.ValidVersion(r.High) {
		return api.ErrVersion
	}
	if mod.Compare(r.Low, r.High) > 0 {
		return api.ErrRange
	}
	return api.OK
}

// has tells whether one of the list is the same.
func (k kind[T]) has(list []T, element T) bool {
	return slices.ContainsFunc(list, func(other T) bool { return k.same(other, element) })
}

// checkNext is Check's error of an element with those ahead of it.
func (k kind[T]) checkNext(ahead []T, element T) api.Errno {
	if e := k.check(element); e != api.OK {
		return e
	}
	if k.has(ahead, element) {
		return api.ErrTwice
	}
	return api.OK
}

func (k kind[T]) checkAll(list []T) api.Errno {
	for i, element := range list {
		if e := k.checkNext(list[:i], element); e != api.OK {
			return e
		}
	}
	return api.OK
}

func (k kind[T]) sorted(list []T) []T {
	rising := slices.Clone(list)
	sort.SliceStable(rising, func(i, j int) bool { return k.less(rising[i], rising[j]) })
	return rising
}

// without is the list without all that are the same, and whether there were any.
func (k kind[T]) without(list []T, element T) ([]T, bool) {
	var rest []T
	for _, other := range list {
		if !k.same(other, element) {
			rest = append(rest, other)
		}
	}
	return rest, len(rest) < len(list)
}

// with is the list with the element in the place of all that are the same.
func (k kind[T]) with(list []T, element T) ([]T, api.Errno) {
	if e := k.check(element); e != api.OK {
		return nil, e
	}
	rest, _ := k.without(list, element)
	if len(rest) >= api.MaxMods {
		return nil, api.ErrMany
	}
	return append(rest, element), api.OK
}
