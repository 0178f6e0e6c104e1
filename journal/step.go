package journal

import (
	"slices"

	"mews/api"
	"mews/fs"
)

// step is one thing that is done to the file system.
type step func() api.Errno

// trouble is what steps are given up with from within.
type trouble struct{ errno api.Errno }

// run goes through steps, and gives up with the first error.
func run(steps []step) {
	for _, do := range steps {
		if e := do(); e != api.OK {
			panic(trouble{e})
		}
	}
}

// errnoOf is the error that was given up with.
func errnoOf(given any) api.Errno {
	if t, ok := given.(trouble); ok {
		return t.errno
	}
	panic(given)
}

// writeDown writes down what is to be done.
func (j *Journal) writeDown(b []byte) []step {
	return []step{
		func() api.Errno { return j.f.Write(j.file, b) },
	}
}

// settle makes durable what is written down: from here on a crash takes
// nothing of it away.
func (j *Journal) settle() []step {
	return []step{
		func() api.Errno { return j.f.Sync(j.file) },
		j.syncDir(fs.Dir(j.file)),
	}
}

// perform does changes and makes them durable, each directory for itself: that
// way it hangs on no order in which a crash keeps names of several ones.
func (j *Journal) perform(l []Change) []step {
	var steps []step
	var dirs []string
	for _, c := range l {
		// Written by somebody else, a journal may change its own file. That one goes
		// in the end anyway, and is needed until then.
		if c.Name != j.file {
			steps = append(steps, j.change(c)...)
			dirs = append(dirs, fs.Dir(c.Name))
		}
	}
	slices.Sort(dirs)
	for _, dir := range slices.Compact(dirs) {
		steps = append(steps, j.syncDir(dir))
	}
	return steps
}

// change does one change; its name is not durable yet.
func (j *Journal) change(c Change) []step {
	if c.Drop {
		return []step{func() api.Errno {
			if !j.f.Has(c.Name) {
				return api.OK
			}
			return j.f.Remove(c.Name)
		}}
	}
	return []step{
		func() api.Errno { return j.f.Write(c.Name, c.Data) },
		func() api.Errno { return j.f.Sync(c.Name) },
	}
}

// takeAway takes away what is written down.
func (j *Journal) takeAway() []step {
	return []step{
		func() api.Errno { return j.f.Remove(j.file) },
		j.syncDir(fs.Dir(j.file)),
	}
}

// syncDir makes the names of a directory durable.
func (j *Journal) syncDir(dir string) step {
	return func() api.Errno { return j.f.SyncDir(dir) }
}
