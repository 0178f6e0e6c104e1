package modfile

import "mews/api"

// AddRequire requires a module.
func AddRequire(f File, r Require) (File, api.Errno) {
	var e api.Errno
	f.Require, e = requires(f.Module).with(f.Require, r)
	return added(f, e)
}

// DropRequire requires it no more.
func DropRequire(f File, path string) (File, bool) {
	var was bool
	f.Require, was = requires(f.Module).without(f.Require, Require{Path: path})
	return Canon(f), was
}

// AddExclude excludes a module.
func AddExclude(f File, m api.Mod) (File, api.Errno) {
	var e api.Errno
	f.Exclude, e = excludes().with(f.Exclude, m)
	return added(f, e)
}

// DropExclude excludes it no more.
func DropExclude(f File, m api.Mod) (File, bool) {
	var was bool
	f.Exclude, was = excludes().without(f.Exclude, m)
	return Canon(f), was
}

// AddReplace replaces a module.
func AddReplace(f File, r Replace) (File, api.Errno) {
	var e api.Errno
	f.Replace, e = replaces().with(f.Replace, r)
	return added(f, e)
}

// DropReplace replaces it no more.
func DropReplace(f File, old api.Mod) (File, bool) {
	var was bool
	f.Replace, was = replaces().without(f.Replace, Replace{Old: old})
	return Canon(f), was
}

// AddRetract takes versions back.
func AddRetract(f File, r Retract) (File, api.Errno) {
	var e api.Errno
	f.Retract, e = retracts().with(f.Retract, r)
	return added(f, e)
}

// DropRetract takes them back no more.
func DropRetract(f File, r Retract) (File, bool) {
	var was bool
	f.Retract, was = retracts().without(f.Retract, r)
	return Canon(f), was
}

// added is what an Add answers: nothing beside an error.
func added(f File, e api.Errno) (File, api.Errno) {
	if e != api.OK {
		return File{}, e
	}
	return Canon(f), api.OK
}
