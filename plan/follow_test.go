package plan_test

import (
	"bytes"
	"fmt"
	"math/rand"
	"slices"
	"strings"
	"testing"

	"mews/api"
	"mews/modfile"
	"mews/plan"
	"mews/scan"
	"mews/sumfile"
)

// eachDrawn does something with drawn projects, pruned and not, and with what
// commands make of them, again and again.
func eachDrawn(t *testing.T, rough bool, do func(r *rand.Rand, d drawn, next plan.Project)) {
	t.Helper()
	for seed := range draws / 12 {
		r := rand.New(rand.NewSource(int64(seed)))
		d := draw(t, r, rough)
		for range 6 {
			next, e := plan.Step(d.project, d.command, d.u, d.model.tags, some(r, 1, 2, 3, 8))
			if e == api.OK {
				do(r, d, next)
				d.project = next
			}
			d.command = drawCommand(r, d.model.world, rough)
		}
	}
}

// fileOf is a project's manifest.
func fileOf(t *testing.T, p plan.Project) modfile.File {
	t.Helper()
	f, _, e := modfile.Parse(p.Manifest)
	if e != api.OK {
		t.Fatalf("Parse of %q: %d", p.Manifest, e)
	}
	return f
}

func TestP16_8_Canonical(t *testing.T) {
	t.Parallel()
	n := tally{}
	for _, rough := range []bool{false, true} {
		eachDrawn(t, rough, func(r *rand.Rand, d drawn, next plan.Project) {
			what := fmt.Sprint(d.command, " of ", d.project.Manifest)
			if d.command.Kind == plan.CVendor {
				is(t, what+", the manifest", next.Manifest, d.project.Manifest)
			} else {
				is(t, what+", the manifest", next.Manifest, formOf(t, next.Manifest))
			}
			lines, _, e := sumfile.Parse(next.Lock)
			is(t, what+", Parse of the lock", e, api.OK)
			text, e := sumfile.Format(lines)
			is(t, what+", Format of the lock", e, api.OK)
			is(t, what+", the lock", next.Lock, text)
			pruned := modfile.Pruned(fileOf(t, d.project))
			again := d.command.Kind == plan.CVendor || d.command.Kind == plan.CTidy && !pruned
			n.count(fmt.Sprint(d.command.Kind, pruned), true)
			if again {
				other, e := plan.Step(next, d.command, d.u, d.model.tags, some(r, 1, 2, 3, 8))
				is(t, what+", again, error", e, api.OK)
				is(t, what+", again", toldProject(other), toldProject(next))
			}
		})
	}
	for kind := plan.CGet; kind <= plan.CVendor; kind++ {
		n.enough(t, 100, fmt.Sprint(kind, true), fmt.Sprint(kind, false))
	}
}

// lineOf is what a lock's line is of.
type lineOf struct {
	mod  api.Mod
	kind int
}

func linesIn(t *testing.T, text string) map[lineOf]string {
	t.Helper()
	lines, _, e := sumfile.Parse(text)
	if e != api.OK {
		t.Fatalf("Parse of %q: %d", text, e)
	}
	sums := map[lineOf]string{}
	for _, x := range lines {
		sums[lineOf{x.Mod, x.Kind}] = x.Sum
	}
	return sums
}

func TestP16_9_Locked(t *testing.T) {
	t.Parallel()
	n := tally{}
	for _, rough := range []bool{false, true} {
		eachDrawn(t, rough, func(r *rand.Rand, d drawn, next plan.Project) {
			what := fmt.Sprint(d.command, " of ", d.project.Manifest)
			list, e := plan.List(next, d.u, 2)
			is(t, what+", List, error", e, api.OK)
			f := fileOf(t, next)
			want := map[lineOf]string{}
			for _, m := range list[1:] {
				want[lineOf{modfile.Replaced(f, m), sumfile.Tree}] = ""
				want[lineOf{modfile.Replaced(f, m), sumfile.Manifest}] = ""
			}
			was, now := linesIn(t, d.project.Lock), linesIn(t, next.Lock)
			is(t, what+", how many lines", len(now), len(want))
			for k, sum := range now {
				_, wanted := want[k]
				is(t, fmt.Sprint(what, ", a line of the list: ", k), wanted, true)
				if old, there := was[k]; there {
					is(t, fmt.Sprint(what, ", a line that was there: ", k), sum, old)
					n.count("there", true)
				}
			}
			for k := range was {
				_, stays := now[k]
				n.count("gone", !stays)
			}
			n.count("pruned", modfile.Pruned(f) && len(now) > 0)
			n.count("not pruned", !modfile.Pruned(f) && len(now) > 0)
			n.count("replaced", len(want) < 2*(len(list)-1) || slices.ContainsFunc(list[1:], func(m api.Mod) bool { return modfile.Replaced(f, m) != m }))
		})
	}
	n.enough(t, 100, "there", "gone", "pruned", "not pruned", "replaced")
}

func TestP16_10_Vendored(t *testing.T) {
	t.Parallel()
	n := tally{}
	for _, rough := range []bool{false, true} {
		eachDrawn(t, rough, func(r *rand.Rand, d drawn, next plan.Project) {
			if d.command.Kind != plan.CVendor {
				is(t, "the tree of another command", toldFiles(next.Vendor), toldFiles(d.project.Vendor))
				return
			}
			what := "vendor of " + d.project.Manifest
			files := listFiles(t, d, next)
			dirs := map[string]bool{}
			lists := 0
			for i, x := range next.Vendor {
				is(t, what+", by rising names", i == 0 || next.Vendor[i-1].Name < x.Name, true)
				if x.Name == "modules.txt" {
					lists++
					continue
				}
				is(t, what+", a file of the list: "+x.Name, slices.ContainsFunc(files[x.Name], func(data []byte) bool { return bytes.Equal(data, x.Data) }), true)
				dirs[x.Name[:strings.LastIndexByte(x.Name, '/')]] = true
			}
			is(t, what+", lists", lists, 1)
			for _, x := range next.Vendor {
				if x.Name != "modules.txt" {
					d.importsThere(t, x, dirs, n)
				}
			}
			n.count("files", len(next.Vendor) > 2)
			n.count("pruned", modfile.Pruned(fileOf(t, next)) && len(next.Vendor) > 1)
		})
	}
	n.enough(t, 40, "files", "pruned", "std", "other")
}

// listFiles is the files of the build list, by the names that they have in the
// vendored tree.
func listFiles(t *testing.T, d drawn, p plan.Project) map[string][][]byte {
	t.Helper()
	list, e := plan.List(p, d.u, 2)
	is(t, "List, error", e, api.OK)
	files := map[string][][]byte{}
	for _, m := range list[1:] {
		tree, e := d.u.Tree(modfile.Replaced(fileOf(t, p), m))
		is(t, "Tree, error", e, api.OK)
		for _, x := range tree {
			name := m.Path + "/" + x.Name
			files[name] = append(files[name], x.Data)
		}
	}
	return files
}

// importsThere fails the test unless each import of a file is the library's,
// main's or a directory of the tree.
func (d drawn) importsThere(t *testing.T, x api.File, dirs map[string]bool, n tally) {
	t.Helper()
	s, _, e := scan.Read(string(x.Data))
	is(t, x.Name+", Read", e, api.OK)
	for _, path := range s.Imports {
		main := path == mainPath || strings.HasPrefix(path, mainPath+"/")
		is(t, x.Name+", an import that is there: "+path, scan.Std(path) || main || dirs[path], true)
		n.count("std", scan.Std(path))
		n.count("main", main)
		n.count("other", !main && !scan.Std(path))
	}
}

func TestP16_11_Workers(t *testing.T) {
	t.Parallel()
	n := tally{}
	for seed := range draws / 8 {
		r := rand.New(rand.NewSource(int64(seed)))
		d := draw(t, r, seed%2 == 1)
		first := allTold(d, 1)
		for _, workers := range []int{2, 3, 8, api.MaxWorkers} {
			is(t, fmt.Sprint(workers, " workers, ", d), allTold(d, workers), first)
		}
		n.count("pruned", modfile.Pruned(fileOf(t, d.project)))
		n.count("not pruned", !modfile.Pruned(fileOf(t, d.project)))
	}
	n.enough(t, 100, "pruned", "not pruned")
}

// allTold is what all calls with workers answer, in full.
func allTold(d drawn, workers int) string {
	var s strings.Builder
	l, e := plan.List(d.project, d.u, workers)
	fmt.Fprintln(&s, "list", told(l), e)
	need, e := plan.Needed(d.project, d.u, d.model.tags, workers)
	fmt.Fprintln(&s, "needed", toldNeeded(need), e)
	text, e := plan.Lock(d.project, l, d.u, workers)
	fmt.Fprintln(&s, "lock", text, e)
	next, e := plan.Step(d.project, d.command, d.u, d.model.tags, workers)
	fmt.Fprintln(&s, d.command, toldProject(next), e)
	return s.String()
}

func shuffled[T any](r *rand.Rand, l []T) []T {
	l = slices.Clone(l)
	r.Shuffle(len(l), func(i, j int) { l[i], l[j] = l[j], l[i] })
	return l
}

// again is the same with other texts of the world and of the project.
func (d drawn) again(t *testing.T, r *rand.Rand, w world) drawn {
	t.Helper()
	f := d.model.faults
	f.Universe = stillOf(t, w.sold())
	d.u = f
	d.project = d.model.work.project(r)
	d.project.Sources = shuffled(r, d.project.Sources)
	d.project.Vendor = shuffled(r, d.project.Vendor)
	return d
}

// otherOrder is a world in another order, and its files; and, if that is said,
// its requirements.
func otherOrder(r *rand.Rand, w world, requirements bool) world {
	w = shuffled(r, w)
	for i := range w {
		w[i].scripts = shuffled(r, w[i].scripts)
		if requirements {
			w[i].requires = shuffled(r, w[i].requires)
		}
	}
	return w
}

// besides is a world with modules that nothing speaks of.
func besides(r *rand.Rand, w world) world {
	more := slices.Clone(w)
	for _, path := range []string{"u.u/u", "a.x/zz", "a.x/b/zz", "a.x/b/qq", "m.n/q", "m.n/p/qq", "a.xx"} {
		for _, v := range drawnVersions() {
			if chance(r, 50) {
				continue
			}
			x := thing{mod: api.Mod{Path: path, Version: v}, says: some(r, path, path, "", "y.y/other"), pruned: chance(r, 50)}
			x.scripts = drawScripts(r, catalog{"a.x/b": {"", "q"}}, drawnDirs(), 2)
			x.requires = drawRequires(r, w, nil, path, 4, 0, true)
			more = append(more, x)
		}
	}
	return shuffled(r, more)
}

// sameAnswers fails the test unless two answer the same, but for the order of
// what stays as it is.
func sameAnswers(t *testing.T, what string, one, other drawn, n tally) {
	t.Helper()
	for _, c := range []plan.Command{one.command, {Kind: plan.CTidy}, {Kind: plan.CVendor}} {
		want, wantE := plan.Step(one.project, c, one.u, one.model.tags, 3)
		next, e := plan.Step(other.project, c, other.u, other.model.tags, 5)
		is(t, what+", error", e, wantE)
		is(t, what+", sources", toldFiles(byName(next.Sources)), toldFiles(byName(want.Sources)))
		is(t, what+", lock", next.Lock, want.Lock)
		if c.Kind == plan.CVendor {
			is(t, what+", vendored", toldFiles(next.Vendor), toldFiles(want.Vendor))
		} else {
			is(t, what+", manifest", next.Manifest, want.Manifest)
		}
		n.count(fmt.Sprint(c.Kind), e == api.OK)
		n.count("errors", e != api.OK)
		if t.Failed() {
			t.Fatalf("%s\n%s\nand\n%s", what, one, other)
		}
	}
}

func byName(l []api.File) []api.File {
	l = slices.Clone(l)
	slices.SortFunc(l, func(a, b api.File) int { return strings.Compare(a.Name, b.Name) })
	return l
}

func TestP16_11_Orders(t *testing.T) {
	t.Parallel()
	n := tally{}
	for seed := range draws / 8 {
		r := rand.New(rand.NewSource(int64(seed)))
		d := draw(t, r, seed%2 == 1)
		sameAnswers(t, fmt.Sprint("seed ", seed, ", in another order"), d, d.again(t, r, otherOrder(r, d.model.world, false)), n)
		d.model.work.lock = nil
		d = d.again(t, r, d.model.world)
		w := otherOrder(r, d.model.world, true)
		other := d.again(t, r, w)
		for kind := range plan.CVendor {
			one, e := plan.Step(d.project, plan.Command{Kind: kind + 1, Path: d.command.Path, Version: d.command.Version}, d.u, d.model.tags, 3)
			two, otherE := plan.Step(other.project, plan.Command{Kind: kind + 1, Path: d.command.Path, Version: d.command.Version}, other.u, d.model.tags, 3)
			is(t, fmt.Sprint("seed ", seed, ", requirements in another order, error"), otherE, e)
			if e == api.OK {
				is(t, fmt.Sprint("seed ", seed, ", requirements in another order"), locked(t, two.Lock), locked(t, one.Lock))
				is(t, fmt.Sprint("seed ", seed, ", requirements in another order"), requires(t, two.Manifest), requires(t, one.Manifest))
				n.count("requirements", true)
			}
		}
	}
	n.enough(t, 40, "1", "2", "3", "4", "5", "errors", "requirements")
}

func TestP16_11_Unrelated(t *testing.T) {
	t.Parallel()
	n := tally{}
	for seed := range draws / 8 {
		r := rand.New(rand.NewSource(int64(seed)))
		d := draw(t, r, seed%2 == 1)
		other := d.again(t, r, besides(r, d.model.world))
		sameAnswers(t, fmt.Sprint("seed ", seed, ", with others besides"), d, other, n)
		l, e := plan.List(d.project, d.u, 3)
		m, otherE := plan.List(other.project, other.u, 3)
		is(t, "List, error", otherE, e)
		is(t, "List", told(m), told(l))
	}
	n.enough(t, 40, "1", "2", "3", "4", "5", "errors")
}
