package journal_test

import (
	"fmt"
	"math"
	"math/rand"
	"slices"
	"testing"

	"mews/api"
	"mews/fs"
	"mews/journal"
)

// explorer lets Open be interrupted and crash, again and again, in every way.
type explorer struct {
	t       *testing.T
	most    int            // names that a crash may keep
	allowed []string       // what may be there behind an Open that answers OK
	met     map[string]int // what was there, how often
	seen    map[string]int // the files behind crashes that were gone on with
}

// crashes goes on with each crash of a file system.
func (x *explorer) crashes(f *fs.FS, visit func(g *fs.FS)) {
	for names := range x.most + 1 {
		for bytes := range tail(f, names) + 1 {
			visit(crash(f, names, bytes))
		}
	}
	visit(crash(f, -1, -1))
	visit(crash(f, math.MaxInt, math.MaxInt))
}

// crash is a copy behind a crash.
func crash(f *fs.FS, names, bytes int) *fs.FS {
	g := f.Copy()
	g.Crash(names, bytes)
	return g
}

// tail is how many bytes a crash that keeps so many names may take from a file.
func tail(f *fs.FS, names int) int {
	longest := 0
	least := crash(f, names, 0).Files()
	for i, file := range crash(f, names, math.MaxInt).Files() {
		longest = max(longest, len(file.Data)-len(least[i].Data))
	}
	return longest
}

// again is explore, if these files were not gone on with yet. All of them are durable.
func (x *explorer) again(f *fs.FS) {
	if x.seen == nil {
		x.seen = map[string]int{}
	}
	files := told(f.Files())
	if x.seen[files]++; x.seen[files] == 1 {
		x.explore(f)
	}
}

// explore opens a file system's journal, interrupted at each step.
func (x *explorer) explore(f *fs.FS) {
	x.t.Helper()
	for step := 1; ; step++ {
		g := f.Copy()
		g.Arm(step)
		j, n, e := journal.Open(g, "tx")
		if e == api.OK {
			g.Arm(0)
			x.opened(f, g, n)
			return
		}
		if e != api.ErrDown || j != nil || n != 0 || !g.Down() {
			x.t.Fatalf("Open, armed for %d: %d, error %d", step, n, e)
		}
		x.crashes(g, x.again)
	}
}

// opened looks at a file system behind an Open that answered OK.
func (x *explorer) opened(was, g *fs.FS, n int) {
	x.t.Helper()
	b, _ := was.Read(file)
	l, _ := modelDecode(string(b))
	is(x.t, "how many changes were done", n, len(l))
	files := told(g.Files())
	if x.met[files]++; !slices.Contains(x.allowed, files) {
		x.t.Fatalf("behind Open: %s\nnot one of: %s", brief(files), brief(x.allowed))
	}
	is(x.t, "Durable behind Open", told(g.Durable()) == files || g.Steps() == was.Steps(), true)
	before := state(g)
	opens(x.t, "again", g, 0)
	is(x.t, "what another Open changes", state(g), before)
}

// interrupted fails the test unless an Apply that is interrupted at each step,
// and crashes in every way, is done as a whole or not at all. All of f is durable.
func interrupted(t *testing.T, f *fs.FS, l []journal.Change) {
	t.Helper()
	was, now := told(f.Files()), modelApply(f.Files(), l)
	x := &explorer{t: t, most: len(l) + 4, allowed: []string{was, now}, met: map[string]int{}}
	for step := 1; ; step++ {
		g := f.Copy()
		j := opens(t, "ahead of Apply", g, 0)
		g.Arm(step)
		e := j.Apply(l)
		if e == api.OK {
			g.Arm(0)
			x.applied(g, now)
			break
		}
		if e != api.ErrDown || !g.Down() {
			t.Fatalf("Apply, armed for %d: error %d", step, e)
		}
		x.crashes(g, x.again)
	}
	if x.met[was] == 0 || x.met[now] == 0 {
		t.Errorf("%s: %v, met too seldom", toldChanges(l), x.met)
	}
}

// applied looks at a file system behind an Apply that answered OK.
func (x *explorer) applied(g *fs.FS, now string) {
	x.t.Helper()
	has(x.t, "behind Apply", g, now)
	sure := &explorer{t: x.t, most: x.most, allowed: []string{now}, met: map[string]int{}}
	sure.crashes(g, sure.again)
	sure.explore(g)
}

func TestP9_6_AllOrNothing(t *testing.T) {
	for _, l := range [][]journal.Change{
		changes(write("a", "new")),
		changes(write("n", "new")),
		changes(drop("a")),
		changes(drop("none")),
		changes(write("a", "x")),
		changes(write("a", "")),
		changes(write("n", "")),
		changes(write("a", "longer than it was"), drop("b/b"), write("b/n", ""), drop("none"), write("n", "1")),
		changes(drop("b/c"), write("b/b", "2"), drop("tx/b"), write("tx/n", "3")),
		changes(write("tx", "1"), write("tx/journal/x", "2"), write("tx/journals", "3"), drop("b/b")),
		changes(write("a", modelBytes(write("b/b", "no"))), write("b/b", modelBytes(drop("a")))),
		changes(drop("a"), drop("b/b"), drop("b/c"), drop("tx/b")),
		nil,
	} {
		interrupted(t, laid(t, 10000, "a", "x", "b/b", "old", "b/c", "", "tx/b", "z"), l)
	}
	interrupted(t, fs.New(1000), changes(write("a", "1"), write("d/a", "22"), drop("none")))
}

// short is changes with a few bytes of their data: there are fewer crashes then.
func short(l []journal.Change) []journal.Change {
	for i := range l {
		l[i].Data = l[i].Data[:min(3, len(l[i].Data))]
	}
	return l
}

func TestP9_6_Drawn(t *testing.T) {
	chance := rand.New(rand.NewSource(96))
	for range 60 {
		f := fs.New(10000)
		j := opens(t, "new", f, 0)
		ahead := short(drawChanges(chance, 6))
		applies(t, toldChanges(ahead), f, j, ahead)
		interrupted(t, f, short(drawChanges(chance, 4)))
	}
}

// Longer ones are interrupted, and crash, by chance.
func TestP9_6_Walks(t *testing.T) {
	chance := rand.New(rand.NewSource(95))
	met := map[bool]int{}
	for range 3000 {
		f := fs.New(10000)
		j := opens(t, "new", f, 0)
		ahead, l := drawChanges(chance, 8), drawChanges(chance, 8)
		applies(t, toldChanges(ahead), f, j, ahead)
		was, now := told(f.Files()), modelApply(f.Files(), l)
		f.Arm(1 + chance.Intn(30))
		answered := j.Apply(l)
		for e := answered; e == api.ErrDown; {
			f.Crash(chance.Intn(10), draw(chance, chance.Intn(10), chance.Intn(300)))
			f.Arm(chance.Intn(40))
			_, _, e = journal.Open(f, "tx")
		}
		f.Arm(0)
		opens(t, "at last", f, 0)
		files := told(f.Files())
		if files != now && (files != was || answered == api.OK) {
			t.Fatalf("%s: %s\nnot %s\nnor %s", toldChanges(l), brief(files), brief(was), brief(now))
		}
		met[files == now]++
	}
	if met[true] < 100 || met[false] < 100 {
		t.Errorf("met: %v", met)
	}
}

// Where it fits in, it fits in behind each crash, too.
func TestP9_6_JustAtTheQuota(t *testing.T) {
	files := []string{"a", "xxxxxx", "b/b", "yy"}
	for _, l := range [][]journal.Change{
		changes(write("n", "12345"), drop("a")),
		changes(write("a", "1234567"), write("b/b", "")),
		changes(write("b/b", "123456"), write("a", ""), write("n", "7")),
	} {
		interrupted(t, laid(t, need(laid(t, 1000, files...), l), files...), l)
	}
}

func TestP9_6_JustAtMaxFiles(t *testing.T) {
	l := changes(write("c", "1"), drop("full/1"), write("d", "2"))
	f := full(t, api.MaxFiles-3)
	durable(f)
	was, now := told(f.Files()), modelApply(f.Files(), l)
	for step := 1; step <= 12; step++ {
		for names := range 5 {
			g := f.Copy()
			j := opens(t, "ahead of Apply", g, 0)
			g.Arm(step)
			e := j.Apply(l)
			g.Crash(names, 1000)
			if _, _, e := journal.Open(g, "tx"); e != api.OK {
				t.Fatalf("armed for %d, kept %d names: Open: error %d", step, names, e)
			}
			if files := told(g.Files()); files != now && (files != was || e == api.OK) {
				t.Errorf("armed for %d, kept %d names: a mixture", step, names)
			}
		}
	}
}

// A great transaction, interrupted here and there.
func TestP9_6_Many(t *testing.T) {
	chance := rand.New(rand.NewSource(97))
	f := fs.New(1 << 20)
	j := opens(t, "new", f, 0)
	isError(t, "Apply", j.Apply(someWrites(900, "d", "old")), api.OK)
	var l []journal.Change
	for i := range 1500 {
		l = append(l, journal.Change{Name: fmt.Sprint("d/", i), Data: []byte("new"), Drop: i%3 == 0})
	}
	was, now := told(f.Files()), modelApply(f.Files(), l)
	met := map[string]int{}
	for range 40 {
		g := f.Copy()
		j := opens(t, "ahead of Apply", g, 0)
		g.Arm(1 + chance.Intn(2600))
		e := j.Apply(l)
		g.Crash(draw(chance, 0, 1, 500, 5000), draw(chance, 0, 1, 20000, 1<<20))
		for e == api.ErrDown {
			g.Arm(1 + chance.Intn(3000))
			if _, _, e = journal.Open(g, "tx"); e == api.ErrDown {
				g.Crash(chance.Intn(1000), chance.Intn(5))
			}
		}
		g.Arm(0)
		opens(t, "at last", g, 0)
		files := told(g.Files())
		if met[files]++; files != was && files != now {
			t.Fatal("a mixture")
		}
	}
	if met[now] < 10 {
		t.Errorf("done %d times", met[now])
	}
}

// What Apply made durable no later crash takes away, whatever is done to other files.
func TestP9_7_NoLaterCrash(t *testing.T) {
	chance := rand.New(rand.NewSource(98))
	for range 300 {
		f := fs.New(10000)
		j := opens(t, "new", f, 0)
		isError(t, "Apply", j.Apply(changes(write("s/a", "gone"), write("s/b", "b"))), api.OK)
		isError(t, "Apply", j.Apply(changes(drop("s/a"), write("s/b", "stays"), write("s/c", ""))), api.OK)
		for range 1 + chance.Intn(5) {
			f.Arm(draw(chance, 0, 0, 1+chance.Intn(8)))
			lay := draw(chance, someNames()...)
			f.Write(lay, []byte("x"))
			f.Remove(draw(chance, someNames()...))
			j.Apply(drawChanges(chance, 4))
			f.Crash(chance.Intn(8)-1, chance.Intn(200)-1)
			if chance.Intn(2) == 0 {
				j, _, _ = journal.Open(f, "tx")
			}
		}
		var stays []api.File
		for _, file := range f.Files() {
			if len(file.Name) > 1 && file.Name[:2] == "s/" {
				stays = append(stays, file)
			}
		}
		is(t, "what Apply made", told(stays), "s/b=stays s/c=")
	}
}

// Another Open changes nothing, also where it is armed, and behind a crash.
func TestP9_7_Again(t *testing.T) {
	for _, s := range []string{"", "no journal", modelBytes(), modelBytes(write("c", "y"), drop("a"))} {
		f := laid(t, 1000, "a", "x", "b", "y", file, s)
		l, _ := modelDecode(s)
		opens(t, "first", f, len(l))
		f.Arm(1)
		before := state(f)
		opens(t, "again", f, 0)
		is(t, "what another Open changes", state(f), before)
		want := told(f.Files())
		f.Crash(0, 0)
		opens(t, "behind a crash", f, 0)
		has(t, "behind a crash", f, want)
	}
}

func TestP9_8_ThereAndBack(t *testing.T) {
	chance := rand.New(rand.NewSource(99))
	for range 400 {
		l := drawChanges(chance, 6)
		b, e := journal.Encode(l)
		isError(t, "Encode", e, api.OK)
		want := toldChanges(dropless(l))
		for _, behind := range []string{"", "\x00", drawBytes(chance, 20), string(b), modelCommit(7)} {
			got, ok := journal.Decode([]byte(string(b) + behind))
			is(t, "Decode of Encode", ok, true)
			is(t, "Decode of Encode", toldChanges(got), want)
		}
		for n := range len(b) {
			if got, ok := journal.Decode(b[:n]); ok || len(got) != 0 {
				t.Errorf("%d bytes of Encode(%s): %s", n, toldChanges(l), toldChanges(got))
			}
		}
	}
}
