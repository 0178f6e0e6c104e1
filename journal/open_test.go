package journal_test

import (
	"fmt"
	"strings"
	"testing"

	"mews/api"
	"mews/fs"
	"mews/journal"
)

func TestP9_3_Examples(t *testing.T) {
	f := fs.New(1000)
	j := opens(t, "a new one", f, 0)
	is(t, "File", j.File(), "tx/journal")
	isError(t, "Apply", j.Apply(changes(write("a", "x"), drop("b"))), api.OK)
	has(t, "behind Apply", f, "a=x")
	appliesNot(t, "the journal's file", f, j, changes(write("tx/journal", "")), api.ErrName)
	appliesNot(t, "more than fits in", f, j, changes(write("c", strings.Repeat("x", 1000))), api.ErrQuota)
	b, _ := journal.Encode(changes(write("c", "y")))
	done(t, f.Write("tx/journal", b))
	opens(t, "a journal that was written", f, 1)
	has(t, "behind Open", f, "a=x c=y")
}

func TestP9_3_Names(t *testing.T) {
	up, down := laid(t, 1000, "a", "x"), laid(t, 1000, "a", "x")
	downed(down)
	long := strings.Repeat("d", api.MaxName)
	for _, dir := range append(noNames(), long, long[:api.MaxName-7], long[:api.MaxName-1], "tx/", "/tx", "tx//b") {
		opensNot(t, "the directory "+brief(dir), up, dir, api.ErrName)
		opensNot(t, "down, the directory "+brief(dir), down, dir, api.ErrName)
	}
	for _, dir := range []string{"t", "journal", "a/b/c", "a", "~", "...", long[:api.MaxName-8], strings.Repeat("d/", 115) + "e"} {
		f := laid(t, 10000, "a", "x")
		j, n, e := journal.Open(f, dir)
		if j == nil || n != 0 || e != api.OK {
			t.Fatalf("the directory %s: %d, error %d", brief(dir), n, e)
		}
		is(t, "File", j.File(), dir+"/journal")
		isError(t, "Apply, "+brief(dir), j.Apply(changes(write("b", "y"))), api.OK)
		has(t, brief(dir), f, "a=x b=y")
		done(t, f.Write(dir+"/journal", []byte(modelBytes(drop("b")))))
		if j, n, e := journal.Open(f, dir); j == nil || n != 1 || e != api.OK {
			t.Errorf("again, the directory %s: %d, error %d", brief(dir), n, e)
		}
		has(t, brief(dir)+", again", f, "a=x")
	}
}

func TestP9_3_Down(t *testing.T) {
	for _, s := range []string{"", "no journal", modelBytes(), modelBytes(write("c", "y")), modelBytes(write("c", strings.Repeat("y", 400)))} {
		f := laid(t, 500, "a", "x")
		if s != "" {
			lay(t, f, file, s)
		}
		downed(f)
		opensNot(t, "down, the journal "+brief(s), f, "tx", api.ErrDown)
	}
}

// synced is a file system with a journal's file of which nothing, the bytes,
// the name, or all is durable.
func synced(t *testing.T, how int, s string, pairs ...string) *fs.FS {
	t.Helper()
	f := laid(t, 1<<20, pairs...)
	lay(t, f, file, s)
	if how&1 == 1 {
		done(t, f.Sync(file))
	}
	if how&2 == 2 {
		done(t, f.SyncDir("tx"))
	}
	return f
}

func TestP9_3_NoJournal(t *testing.T) {
	whole := modelBytes(write("c", "y"), drop("a"))
	texts := []string{"", "\x00", "no journal", modelRecord(1, "c", "y"), modelCommit(1), modelBytes(write("/c", "y")), whole[:len(whole)-1], whole[1:], "x" + whole, strings.ToUpper(whole)}
	for n := range len(whole) {
		texts = append(texts, whole[:n])
	}
	for _, s := range texts {
		for how := range 4 {
			f := synced(t, how, s, "a", "x", "tx/b", "z")
			opens(t, "the journal "+brief(s), f, 0)
			has(t, "the journal "+brief(s), f, "a=x tx/b=z")
		}
	}
}

func TestP9_3_Finished(t *testing.T) {
	for _, l := range [][]journal.Change{
		nil,
		changes(write("c", "y")),
		changes(drop("a")),
		changes(drop("none")),
		changes(write("a", ""), write("c/d", "y"), drop("b/b"), drop("none"), write("tx/a", "1")),
		changes(drop("a"), drop("b/b"), drop("tx/b")),
		changes(write("tx", "1"), write("tx/journal/x", "2"), write("journal", "3")),
		someWrites(api.MaxChanges, "d", ""),
	} {
		for how := range 4 {
			for _, behind := range []string{"", "behind"} {
				f := synced(t, how, modelBytes(l...)+behind, "a", "x", "b/b", "y", "tx/b", "z")
				want := modelApply(f.Files(), l)
				j := opens(t, brief(toldChanges(l)), f, len(l))
				has(t, brief(toldChanges(l)), f, want)
				applies(t, "behind Open", f, j, changes(write("later", "l")))
			}
		}
	}
}

// Where nothing is to be done, nothing is.
func TestP9_3_NothingThere(t *testing.T) {
	f := laid(t, 100, "a", "x")
	lay(t, f, "tx/b", "y", "a", "z")
	before := state(f)
	opens(t, "no journal's file", f, 0)
	is(t, "the files", state(f), before)
}

func TestP9_3_OtherFiles(t *testing.T) {
	s := modelBytes(write("c", "y"))
	f := laid(t, 10000, "tx", s, "journal", s, "tx/tx/journal", s, "ty/journal", s, "tx/journal/journal", s, "tx/journal2", s)
	want := told(f.Files())
	opens(t, "other journals", f, 0)
	has(t, "other journals", f, want)
}

func TestP9_3_Quota(t *testing.T) {
	b := modelBytes(write("c", "12345"), drop("a"), write("d", "6"))
	for room := range 5 {
		f := fs.New(len(b) + len("xx") + room)
		lay(t, f, "a", "xx", file, b)
		opensNot(t, fmt.Sprint("room for ", room, " of 5"), f, "tx", api.ErrQuota)
		done(t, f.Remove("a"))
		if room == 4 {
			opens(t, "behind ErrQuota, when there is room", f, 3)
			has(t, "when there is room", f, "c=12345 d=6")
		}
	}
	f := fs.New(len(b) + len("xx") + 5)
	lay(t, f, "a", "xx", file, b)
	opens(t, "just enough", f, 3)
	has(t, "just enough", f, "c=12345 d=6")

	b = modelBytes(write("c", "1"), write("a", "123"), write("d", "12"))
	f = fs.New(len(b) + 5)
	lay(t, f, "a", "xxx", file, b)
	opensNot(t, "the last one doesn't fit in", f, "tx", api.ErrQuota)
	f.Arm(3)
	opensNot(t, "armed, the last one doesn't fit in", f, "tx", api.ErrQuota)
}

// full is a file system of so many files.
func full(t *testing.T, count int) *fs.FS {
	t.Helper()
	f := fs.New(api.MaxQuota)
	for i := range count {
		lay(t, f, fmt.Sprint("full/", i), "")
	}
	return f
}

func TestP9_3_Files(t *testing.T) {
	for _, c := range []struct {
		what  string
		count int // of the files beside the journal's
		l     []journal.Change
		want  api.Errno
	}{
		{"one more fits in", api.MaxFiles - 2, changes(write("c", "")), api.OK},
		{"none more fits in", api.MaxFiles - 1, changes(write("c", "")), api.ErrQuota},
		{"one that is there", api.MaxFiles - 1, changes(write("full/1", "x")), api.OK},
		{"one for another one", api.MaxFiles - 1, changes(drop("full/1"), write("c", "")), api.OK},
		{"a drop", api.MaxFiles - 1, changes(drop("full/1"), drop("none")), api.OK},
		{"two, one fits in", api.MaxFiles - 2, changes(write("c", ""), write("d", "")), api.ErrQuota},
	} {
		f := full(t, c.count)
		lay(t, f, file, modelBytes(c.l...))
		if c.want == api.OK {
			opens(t, c.what, f, len(c.l))
			continue
		}
		before := told(f.Files())
		j, n, e := journal.Open(f, "tx")
		isError(t, c.what, e, c.want)
		if j != nil || n != 0 || told(f.Files()) != before {
			t.Errorf("%s: %d, or something was done", c.what, n)
		}
	}
}

func TestP9_3_OrderOfErrors(t *testing.T) {
	f := fs.New(100)
	lay(t, f, file, modelBytes(write("c", strings.Repeat("x", 60))))
	opensNot(t, "no room", f, "tx", api.ErrQuota)
	f.Arm(1)
	opensNot(t, "no room, armed", f, "tx", api.ErrQuota)
	downed(f)
	opensNot(t, "no room, down", f, "tx", api.ErrDown)
	opensNot(t, "no name, no room, down", f, "tx/", api.ErrName)
}

// A journal of somebody else's making that was not durable is done as a whole,
// or not at all.
func TestP9_3_GoesDown(t *testing.T) {
	l := changes(write("a", "new"), drop("b/b"), write("tx/c", "y"), drop("none"), write("b/d", ""))
	for _, s := range []string{modelBytes(l...), modelBytes(l...) + "rest", modelBytes(l...)[1:]} {
		for how := range 4 {
			f := synced(t, how, s, "a", "old", "b/b", "z")
			was := modelApply(f.Files(), nil)
			now := was
			if got, ok := modelDecode(s); ok {
				now = modelApply(f.Files(), got)
			}
			x := explorer{t: t, most: len(l) + 4, allowed: []string{was, now}, met: map[string]int{}}
			x.explore(f)
			if x.met[now] == 0 {
				t.Errorf("%s, %d: never done: %v", brief(s), how, x.met)
			}
		}
	}
}

// A journal that nobody but somebody else can have made changes its own file.
func TestP9_3_OwnFile(t *testing.T) {
	for _, own := range []journal.Change{drop(file), write(file, ""), write(file, "x"), write(file, modelBytes(write("b", "no"))), write(file, strings.Repeat("x", 300))} {
		for at := range 3 {
			l := changes(write("a", "new"), drop("b"))
			l = append(l[:at:at], append(changes(own), l[at:]...)...)
			f := laid(t, 10000, "a", "old", "b", "y", file, modelBytes(l...))
			x := explorer{t: t, most: len(l) + 4, allowed: []string{"a=new"}, met: map[string]int{}}
			x.explore(f)
			opens(t, "a change of its own file", f, 3)
			has(t, "a change of its own file", f, "a=new")
		}
	}
}
