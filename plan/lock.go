package plan

import (
	"sync"

	"mews/api"
	"mews/ark"
	"mews/modfile"
	"mews/sumfile"
)

// Lock is the lock of a build list.
func Lock(p Project, l []api.Mod, u Universe, workers int) (string, api.Errno) {
	if !mayWork(workers) {
		return "", api.ErrRange
	}
	f, _, e := modfile.Parse(p.Manifest)
	if e != api.OK {
		return "", e
	}
	was, _, e := sumfile.Parse(p.Lock)
	if e != api.OK {
		return "", e
	}
	return lockOf(f, was, l, careful{u}, workers)
}

// lockOf is the lock of a build list, where there was another one.
func lockOf(f modfile.File, was []sumfile.Line, list []api.Mod, u Universe, workers int) (string, api.Errno) {
	var lines []sumfile.Line
	for _, s := range sumAll(inPlace(f, list), u, workers) {
		if s.e != api.OK {
			return "", s.e
		}
		lines = append(lines, s.lines...)
	}
	for _, line := range lines {
		sum, there := sumfile.Find(was, line.Mod, line.Kind)
		if there && sum != line.Sum {
			return "", api.ErrMismatch
		}
	}
	return sumfile.Format(once(lines))
}

// inPlace is what stands in the place of each module of a build list but main.
func inPlace(f modfile.File, list []api.Mod) []api.Mod {
	var placed []api.Mod
	for _, m := range list {
		if m != mainOf(f) {
			placed = append(placed, modfile.Replaced(f, m))
		}
	}
	return placed
}

// once is lines, each once: what stands in the place of two modules has its
// lines twice.
func once(lines []sumfile.Line) []sumfile.Line {
	seen := map[sumfile.Line]struct{}{}
	var list []sumfile.Line
	for _, line := range lines {
		if _, twice := seen[line]; !twice {
			seen[line] = struct{}{}
			list = append(list, line)
		}
	}
	return list
}

// sums is the lines of a module, or why there are none.
type sums struct {
	lines []sumfile.Line
	e     api.Errno
}

// sumAll is the lines of modules, in their order, worked out by several
// goroutines. Each module is worked out, whatever comes of others, so that the
// first error is told whoever is quicker.
func sumAll(mods []api.Mod, u Universe, workers int) []sums {
	places := make(chan int, len(mods))
	for i := range mods {
		places <- i
	}
	close(places)
	list := make([]sums, len(mods))
	var group sync.WaitGroup
	for range min(workers, len(mods)) {
		group.Add(1)
		go func() {
			defer group.Done()
			for i := range places {
				list[i] = sum(mods[i], u)
			}
		}()
	}
	group.Wait()
	return list
}

// sum is the lines of a module.
func sum(m api.Mod, u Universe) sums {
	text, manifestError := u.Manifest(m)
	files, e := u.Tree(m)
	if manifestError != api.OK {
		return sums{e: manifestError}
	}
	if e != api.OK {
		return sums{e: e}
	}
	tree, e := ark.H1(ark.Add(files, m))
	if e != api.OK {
		return sums{e: e}
	}
	return sums{lines: []sumfile.Line{
		{Mod: m, Kind: sumfile.Tree, Sum: tree},
		{Mod: m, Kind: sumfile.Manifest, Sum: ark.ManifestSum(text)},
	}}
}
