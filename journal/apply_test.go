package journal_test

import (
	"fmt"
	"math/rand"
	"strings"
	"testing"

	"mews/api"
	"mews/fs"
	"mews/journal"
)

func TestP9_4_Changes(t *testing.T) {
	for what, l := range map[string][]journal.Change{
		"no change":                nil,
		"a new file":               changes(write("n", "new")),
		"a file written over":      changes(write("a", "new")),
		"the same bytes":           changes(write("a", "x")),
		"empty data":               changes(write("a", ""), write("n", "")),
		"a drop":                   changes(drop("a")),
		"a drop of nothing":        changes(drop("none"), drop("no/ne")),
		"a drop with data":         changes(journal.Change{Name: "a", Data: []byte("data"), Drop: true}),
		"all":                      changes(write("n", "1"), drop("a"), write("b/b", "2"), drop("none"), write("b/n", "3"), drop("tx/b")),
		"the journal's directory":  changes(write("tx/n", "1"), write("tx", "2"), drop("tx/b")),
		"below the journal's file": changes(write("tx/journal/n", "1"), write("tx/journals", "2")),
		"the greatest name":        changes(write(strings.Repeat("n", api.MaxName), "1")),
		"data that are a journal":  changes(write("n", modelBytes(write("a", "no")))),
		"all gone":                 changes(drop("a"), drop("b/b"), drop("tx/b")),
	} {
		f := laid(t, 10000, "a", "x", "b/b", "y", "tx/b", "z")
		j := opens(t, what, f, 0)
		applies(t, what, f, j, l)
		applies(t, what+", again", f, j, l)
	}
}

func TestP9_4_OneBehindTheOther(t *testing.T) {
	chance := rand.New(rand.NewSource(94))
	for range 50 {
		f := fs.New(10000)
		j := opens(t, "new", f, 0)
		for range 20 {
			l := drawChanges(chance, 8)
			applies(t, toldChanges(l), f, j, l)
			if chance.Intn(4) == 0 {
				j = opens(t, "between", f, 0)
			}
		}
	}
}

func TestP9_4_Many(t *testing.T) {
	f := fs.New(1 << 20)
	j := opens(t, "new", f, 0)
	l := someWrites(api.MaxChanges, "d", "x")
	applies(t, "MaxChanges writes", f, j, l)
	for i := range l {
		l[i].Name = fmt.Sprint("d", i%100, "/", i)
	}
	l = l[:api.MaxChanges/2]
	for i := range api.MaxChanges / 2 {
		l = append(l, drop(fmt.Sprint("d/", 2*i)))
	}
	applies(t, "MaxChanges of both", f, j, l)
}

// What was not durable ahead of Apply, and is what Apply makes, is durable then.
func TestP9_4_DurableThatWasNot(t *testing.T) {
	for what, ahead := range map[string]func(f *fs.FS) api.Errno{
		"removed":          func(f *fs.FS) api.Errno { return f.Remove("a") },
		"renamed":          func(f *fs.FS) api.Errno { return f.Rename("a", "else/a") },
		"renamed onto":     func(f *fs.FS) api.Errno { return f.Rename("a", "b") },
		"written":          func(f *fs.FS) api.Errno { return f.Write("b", []byte("new")) },
		"appended":         func(f *fs.FS) api.Errno { return f.Append("b", []byte("more")) },
		"a journal's file": func(f *fs.FS) api.Errno { return f.Write(file, []byte(modelBytes(write("c", "no")))) },
		"no journal":       func(f *fs.FS) api.Errno { return f.Write(file, []byte("no journal")) },
	} {
		f := laid(t, 1000, "a", "x", "b", "y")
		j := opens(t, what, f, 0)
		done(t, ahead(f))
		l := changes(drop("a"), write("b", "new"), drop("else/a"))
		applies(t, what, f, j, l)
		is(t, what+", crashed", crashed(f, 0, 0), "b=new")
	}
}

func TestP9_4_Errors(t *testing.T) {
	f := laid(t, 1000, "a", "x")
	j := opens(t, "new", f, 0)
	for _, name := range noNames() {
		appliesNot(t, "a write of "+brief(name), f, j, changes(write("b", "y"), write(name, "x")), api.ErrName)
		appliesNot(t, "a drop of "+brief(name), f, j, changes(drop("a"), drop(name)), api.ErrName)
	}
	appliesNot(t, "a name twice", f, j, changes(write("b", "y"), write("b", "y")), api.ErrTwice)
	appliesNot(t, "a drop and a write", f, j, changes(drop("a"), write("a", "y")), api.ErrTwice)
	appliesNot(t, "too many", f, j, someWrites(api.MaxChanges+1, "d", ""), api.ErrMany)
	appliesNot(t, "a write of the journal's file", f, j, changes(write("b", "y"), write(file, "x")), api.ErrName)
	appliesNot(t, "a drop of the journal's file", f, j, changes(write("b", "y"), drop(file)), api.ErrName)
	appliesNot(t, "the journal's file first", f, j, changes(drop(file), write("b", "y")), api.ErrName)
	applies(t, "behind errors", f, j, changes(write("b", "y")))
	downed(f)
	appliesNot(t, "down", f, j, changes(write("c", "y")), api.ErrDown)
	appliesNot(t, "down, no change", f, j, nil, api.ErrDown)
	f.Crash(0, 0)
	applies(t, "behind a crash", f, j, changes(write("c", "z")))
}

func TestP9_4_OrderOfErrors(t *testing.T) {
	big := strings.Repeat("x", 1000)
	up, down := laid(t, 1000, "a", "x"), laid(t, 1000, "a", "x")
	ju, jd := opens(t, "up", up, 0), opens(t, "down", down, 0)
	downed(down)
	for _, c := range []struct {
		what       string
		l          []journal.Change
		up, downed api.Errno
	}{
		{"too many, its file, no room", append(someWrites(api.MaxChanges, "d", "x"), write(file, big)), api.ErrMany, api.ErrMany},
		{"no name, no room", changes(write("b", big), write("/", "")), api.ErrName, api.ErrName},
		{"twice, no room", changes(write("b", big), write("b", "")), api.ErrTwice, api.ErrTwice},
		{"its file ahead of twice", changes(write(file, ""), write("b", ""), write("b", "")), api.ErrTwice, api.ErrTwice},
		{"its file twice", changes(write(file, ""), write(file, "")), api.ErrTwice, api.ErrTwice},
		{"its file, no room", changes(write("b", big), drop(file)), api.ErrName, api.ErrName},
		{"no room", changes(write("b", big)), api.ErrQuota, api.ErrDown},
		{"nothing wrong", changes(write("b", "")), api.OK, api.ErrDown},
	} {
		if c.up != api.OK {
			appliesNot(t, c.what, up, ju, c.l, c.up)
			up.Arm(1)
			appliesNot(t, c.what+", armed", up, ju, c.l, c.up)
			up.Arm(0)
		}
		appliesNot(t, c.what+", down", down, jd, c.l, c.downed)
	}
}

// need is how many bytes Apply asks room for.
func need(f *fs.FS, l []journal.Change) int {
	sum := f.Size() + len(modelBytes(l...))
	for _, c := range l {
		if !c.Drop {
			sum += len(c.Data)
		}
	}
	return sum
}

func TestP9_4_Quota(t *testing.T) {
	for what, l := range map[string][]journal.Change{
		"no change":                      nil,
		"a write":                        changes(write("n", "12345")),
		"empty data":                     changes(write("n", "")),
		"a file that is written over":    changes(write("a", "1234567")),
		"a file that is written shorter": changes(write("a", "")),
		"a drop":                         changes(drop("a"), drop("b/b")),
		"a drop with data":               changes(journal.Change{Name: "a", Data: []byte("12345678"), Drop: true}),
		"all":                            changes(drop("a"), write("b/b", "1"), write("n", "123"), drop("none")),
	} {
		files := []string{"a", "xxxxxx", "b/b", "yy"}
		just := need(laid(t, 1000, files...), l)
		f := laid(t, just-1, files...)
		appliesNot(t, what+", one beyond", f, opens(t, what, f, 0), l, api.ErrQuota)
		f = laid(t, just, files...)
		applies(t, what+", just at the quota", f, opens(t, what, f, 0), l)

		files = append(files, file, "no journal")
		f = laid(t, just+10-1, files[:4]...)
		j := opens(t, what, f, 0)
		lay(t, f, files[4:]...)
		appliesNot(t, what+", with a journal's file, one beyond", f, j, l, api.ErrQuota)
		f = laid(t, just+10, files[:4]...)
		j = opens(t, what, f, 0)
		lay(t, f, files[4:]...)
		applies(t, what+", with a journal's file, just at the quota", f, j, l)
	}
}

// Behind a crash that brings a name back there may be more than the quota.
func TestP9_4_AboveTheQuota(t *testing.T) {
	f := laid(t, 100, "a", strings.Repeat("x", 100), "b", "")
	done(t, f.Remove("a"))
	done(t, f.Append("b", []byte(strings.Repeat("y", 100))))
	done(t, f.Sync("b"))
	f.Crash(0, 0)
	is(t, "Size", f.Size(), 200)
	j := opens(t, "above the quota", f, 0)
	appliesNot(t, "a drop, above the quota", f, j, changes(drop("a")), api.ErrQuota)
}

func TestP9_4_Files(t *testing.T) {
	for _, c := range []struct {
		what  string
		count int
		l     []journal.Change
		want  api.Errno
	}{
		{"no change", api.MaxFiles - 1, nil, api.OK},
		{"no change, one beyond", api.MaxFiles, nil, api.ErrQuota},
		{"a write", api.MaxFiles - 2, changes(write("c", "")), api.OK},
		{"a write, one beyond", api.MaxFiles - 1, changes(write("c", "")), api.ErrQuota},
		{"one that is there", api.MaxFiles - 2, changes(write("full/1", "x")), api.OK},
		{"one that is there, one beyond", api.MaxFiles - 1, changes(write("full/1", "x")), api.ErrQuota},
		{"drops", api.MaxFiles - 1, changes(drop("full/1"), drop("full/2"), drop("none")), api.OK},
		{"drops, one beyond", api.MaxFiles, changes(drop("full/1"), drop("full/2")), api.ErrQuota},
		{"both", api.MaxFiles - 3, changes(drop("full/1"), write("c", ""), write("d", "")), api.OK},
		{"both, one beyond", api.MaxFiles - 2, changes(drop("full/1"), write("c", ""), write("d", "")), api.ErrQuota},
		{"MaxChanges", api.MaxFiles - api.MaxChanges - 1, someWrites(api.MaxChanges, "d", ""), api.OK},
		{"MaxChanges, one beyond", api.MaxFiles - api.MaxChanges, someWrites(api.MaxChanges, "d", ""), api.ErrQuota},
	} {
		f := full(t, c.count)
		j := opens(t, c.what, f, 0)
		want, steps := told(f.Files()), f.Steps()
		if c.want == api.OK {
			want = modelApply(f.Files(), c.l)
		}
		isError(t, c.what, j.Apply(c.l), c.want)
		is(t, c.what+", the files", told(f.Files()), want)
		is(t, c.what+", whether anything was done", f.Steps() > steps, c.want == api.OK)
	}
}

// Journals of two directories do not see one another.
func TestP9_4_TwoJournals(t *testing.T) {
	f := laid(t, 10000, "a", "x")
	j := opens(t, "tx", f, 0)
	other, _, e := journal.Open(f, "ty")
	isError(t, "ty", e, api.OK)
	is(t, "File", other.File(), "ty/journal")
	isError(t, "ty", other.Apply(changes(write(file, "of the other's"), write("b", "y"))), api.OK)
	has(t, "ty", f, "a=x b=y tx/journal=of the other's")
	isError(t, "tx", j.Apply(changes(write("ty/journal", "of the one's"))), api.OK)
	has(t, "tx", f, "a=x b=y ty/journal=of the one's")
}
