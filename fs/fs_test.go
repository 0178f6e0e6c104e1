package fs_test

import (
	"math"
	"slices"
	"strconv"
	"strings"
	"testing"

	"mews/api"
	"mews/fs"
)

// The chapter's examples, with their answers.
func TestExamples(t *testing.T) {
	f := fs.New(10)
	is(t, "Write", f.Write("a", []byte("abc")), api.OK)
	is(t, "Write", f.Write("/a", []byte("x")), api.ErrName)
	is(t, "Append", f.Append("b", []byte("x")), api.ErrNone)
	is(t, "Write", f.Write("d/b", []byte("12345678")), api.ErrQuota)
	is(t, "Size", f.Size(), 3)

	is(t, "Durable", told(f.Durable()), "")
	is(t, "Sync", f.Sync("a"), api.OK)
	is(t, "Durable", told(f.Durable()), "")
	is(t, "SyncDir", f.SyncDir(""), api.OK)
	is(t, "Durable", told(f.Durable()), "a=abc")

	is(t, "Append", f.Append("a", []byte("de")), api.OK)
	is(t, "Rename", f.Rename("a", "d/a"), api.OK)
	is(t, "List", strings.Join(f.List(""), " "), "d/a")
	is(t, "Durable", told(f.Durable()), "a=abc")

	is(t, "Crash(0, 0)", crashed(f, 0, 0), "a=abc")
	is(t, "Crash(1, 1)", crashed(f, 1, 1), "d/a=abcd")

	is(t, "SyncDir", f.SyncDir("d"), api.OK)
	is(t, "Durable", told(f.Durable()), "d/a=abc")
	is(t, "Write", f.Write("d/a", []byte("z")), api.OK)
	is(t, "Durable", told(f.Durable()), "d/a=abc")

	f.Arm(1)
	is(t, "Remove", f.Remove("d/a"), api.ErrDown)
	is(t, "Remove", f.Remove("x"), api.ErrDown)
	is(t, "Down", f.Down(), true)
	data, e := f.Read("d/a")
	is(t, "Read", string(data), "z")
	is(t, "Read", e, api.OK)

	f.Crash(9, 9)
	is(t, "Files", told(f.Files()), "d/a=z")
	is(t, "Steps", f.Steps(), 7)
}

func TestP1_1New(t *testing.T) {
	for _, c := range []struct{ quota, want int }{
		{math.MinInt, 0}, {-1, 0}, {0, 0}, {1, 1}, {10, 10},
		{api.MaxQuota - 1, api.MaxQuota - 1}, {api.MaxQuota, api.MaxQuota},
		{api.MaxQuota + 1, api.MaxQuota}, {math.MaxInt, api.MaxQuota},
	} {
		f := fs.New(c.quota)
		is(t, "Quota", f.Quota(), c.want)
		is(t, "Files", len(f.Files())+len(f.Durable())+len(f.List("")), 0)
		is(t, "Size", f.Size(), 0)
		is(t, "Steps", f.Steps(), 0)
		is(t, "Down", f.Down(), false)
		is(t, "armed", arms(f), 0)
	}
}

func TestP1_1QuotaBounds(t *testing.T) {
	f := fs.New(-7)
	is(t, "a byte", f.Write("a", []byte("x")), api.ErrQuota)
	is(t, "no byte", f.Write("a", nil), api.OK)
	is(t, "a byte", f.Append("a", []byte("x")), api.ErrQuota)
	f = fs.New(math.MaxInt)
	most := make([]byte, api.MaxQuota+1)
	is(t, "above MaxQuota", f.Write("a", most), api.ErrQuota)
	is(t, "MaxQuota", f.Write("a", most[1:]), api.OK)
	is(t, "above MaxQuota", f.Write("b", []byte("x")), api.ErrQuota)
}

func TestP1_1Valid(t *testing.T) {
	long := strings.Repeat("a", api.MaxName)
	for _, name := range []string{
		"a", "a/b", "a/b/c", "...", "..a", "a..", ".a", "a.", "a/...", "a/.b", "-", "~", "!", "A:B",
		long, strings.Repeat("a/", api.MaxName/2-1) + "ab",
	} {
		is(t, "Valid of "+name, fs.Valid(name), true)
	}
	for _, name := range []string{
		"", "/", "//", "a/", "/a", "a//b", ".", "..", "./a", "../a", "a/.", "a/..", "a/./b", "a/../b",
		"a b", " ", "a\\b", "\\", "a\x00", "a\n", "\x7f", "a/\x80", "ä", "\xff", long + "a",
		strings.Repeat("a/", api.MaxName/2) + "a",
	} {
		is(t, "Valid of "+strconv.Quote(name), fs.Valid(name), false)
	}
}

func TestP1_1ValidBytes(t *testing.T) {
	for c := range 256 {
		want := 0x21 <= c && c <= 0x7e && c != '/' && c != '\\'
		element := string([]byte{'a', byte(c), 'b'})
		if c != '/' {
			is(t, strconv.Quote(element), fs.Valid(element), want)
			is(t, strconv.Quote("x/"+element), fs.Valid("x/"+element), want)
		}
		if c != '.' {
			is(t, "alone "+strconv.Itoa(c), fs.Valid(string([]byte{byte(c)})), want)
		}
	}
}

func TestP1_1Dir(t *testing.T) {
	for _, c := range [][2]string{
		{"", ""}, {"a", ""}, {"/", ""}, {"/a", ""}, {"a/", "a"}, {"a/b", "a"}, {"a/b/c", "a/b"},
		{"a//b", "a/"}, {"//", "/"}, {"a b/\x00", "a b"}, {"../..", ".."},
	} {
		is(t, "Dir of "+strconv.Quote(c[0]), fs.Dir(c[0]), c[1])
	}
}

// errorCases are calls on the file system of errorState with the errors that
// are theirs, where several errors hold: the one that comes first.
var errorCases = []struct {
	call
	want api.Errno
}{
	{writeCall("", "x"), api.ErrName},
	{writeCall("a/", "x"), api.ErrName},
	{writeCall("..", strings.Repeat("x", 99)), api.ErrName},
	{writeCall(strings.Repeat("n", api.MaxName+1), "x"), api.ErrName},
	{writeCall("new", "12345"), api.ErrQuota},
	{writeCall("a", "12345678"), api.ErrQuota},
	{appendCall("none", "x"), api.ErrNone},
	{appendCall("none", "12345678901"), api.ErrNone},
	{appendCall("a/", "x"), api.ErrNone},
	{appendCall("", ""), api.ErrNone},
	{appendCall("d", "x"), api.ErrNone},
	{appendCall("a", "12345"), api.ErrQuota},
	{syncCall("none"), api.ErrNone},
	{syncCall("d"), api.ErrNone},
	{syncCall(""), api.ErrNone},
	{syncCall("/a"), api.ErrNone},
	{renameCall("none", "b"), api.ErrNone},
	{renameCall("none", "none"), api.ErrNone},
	{renameCall("none", "/"), api.ErrNone},
	{renameCall("", ""), api.ErrNone},
	{renameCall("a", ""), api.ErrName},
	{renameCall("a", "a/"), api.ErrName},
	{renameCall("a", "a b"), api.ErrName},
	{renameCall("a", strings.Repeat("n", api.MaxName+1)), api.ErrName},
	{removeCall("none"), api.ErrNone},
	{removeCall("d"), api.ErrNone},
	{removeCall("a/"), api.ErrNone},
	{syncDirCall("/"), api.ErrName},
	{syncDirCall("d/"), api.ErrName},
	{syncDirCall("."), api.ErrName},
	{syncDirCall(strings.Repeat("n", api.MaxName+1)), api.ErrName},
}

// goodCases are calls on the file system of errorState that have no error.
var goodCases = []call{
	writeCall("new", "1234"), writeCall("new", ""), writeCall("a", "1234567"), writeCall("a", ""),
	writeCall("a/b", "x"), writeCall(strings.Repeat("n", api.MaxName), "x"),
	appendCall("a", "1234"), appendCall("a", ""), syncCall("a"), syncCall("d/b"),
	renameCall("a", "c"), renameCall("a", "d/b"), renameCall("a", "a"), renameCall("d/b", "e/f/g"),
	removeCall("a"), removeCall("d/b"),
	syncDirCall(""), syncDirCall("d"), syncDirCall("none"), syncDirCall("d/b"),
	syncDirCall(strings.Repeat("n", api.MaxName)),
}

// errorState has 6 of 10 bytes, some durable, and pending changes.
func errorState(t *testing.T) *fs.FS {
	f := fs.New(10)
	write(t, f, "a", "ab")
	done(t, f.Sync("a"))
	done(t, f.SyncDir(""))
	done(t, f.Append("a", []byte("c")))
	write(t, f, "d/b", "def")
	return f
}

func TestP1_2OrderOfErrors(t *testing.T) {
	for _, c := range errorCases {
		f := errorState(t)
		is(t, c.text, c.do(f), c.want)
		f.Arm(1)
		is(t, "armed: "+c.text, c.do(f), c.want)
		is(t, "armed: down by "+c.text, f.Down(), false)
		is(t, "armed: the next", f.SyncDir(""), api.ErrDown)
		is(t, "down: "+c.text, c.do(f), api.ErrDown)
	}
	for _, c := range goodCases {
		f := errorState(t)
		is(t, c.text, c.do(f), api.OK)
		f = errorState(t)
		f.Arm(1)
		is(t, "armed: "+c.text, c.do(f), api.ErrDown)
		is(t, "armed: down by "+c.text, f.Down(), true)
		is(t, "down: "+c.text, c.do(f), api.ErrDown)
	}
}

func TestP1_2Write(t *testing.T) {
	f := fs.New(100)
	write(t, f, "a", "old", "a/b", "below")
	is(t, "a file and a directory", told(f.Files()), "a=old a/b=below")
	done(t, f.Sync("a"))
	done(t, f.SyncDir(""))
	write(t, f, "a", "new one")
	is(t, "now", told(f.Files()), "a=new one a/b=below")
	is(t, "pending", told(f.Durable()), "a=old")
	done(t, f.SyncDir(""))
	is(t, "a new file, none of it durable", told(f.Durable()), "a= a/b=")
	done(t, f.Sync("a"))
	is(t, "synced", told(f.Durable()), "a=new one a/b=")
}

func TestP1_2WriteQuota(t *testing.T) {
	f := fs.New(10)
	write(t, f, "a", "1234567890")
	is(t, "one more", f.Write("b", []byte("x")), api.ErrQuota)
	is(t, "an empty one", f.Write("b", nil), api.OK)
	is(t, "in its place", f.Write("a", []byte("0987654321")), api.OK)
	is(t, "in its place, too many", f.Write("a", []byte("12345678901")), api.ErrQuota)
	write(t, f, "a", "123")
	is(t, "the rest", f.Write("b", []byte("1234567")), api.OK)
	is(t, "Size", f.Size(), 10)
	done(t, f.Rename("a", "b"))
	is(t, "behind Rename onto it", f.Write("c", []byte("1234567")), api.OK)
	is(t, "one more", f.Append("c", []byte("8")), api.ErrQuota)
	done(t, f.Remove("b"))
	is(t, "behind Remove", f.Append("c", []byte("890")), api.OK)
	is(t, "one more", f.Append("c", []byte("1")), api.ErrQuota)
}

func TestP1_2WriteMaxFiles(t *testing.T) {
	f := fs.New(100)
	for i := range api.MaxFiles {
		done(t, f.Write(strconv.Itoa(i), nil))
	}
	is(t, "one more", f.Write("more", nil), api.ErrQuota)
	is(t, "in its place", f.Write("0", []byte("x")), api.OK)
	is(t, "Append", f.Append("1", []byte("x")), api.OK)
	is(t, "another name", f.Rename("2", "two"), api.OK)
	is(t, "as many as before", f.Write("more", nil), api.ErrQuota)
	is(t, "onto another one", f.Rename("3", "4"), api.OK)
	is(t, "room for one", f.Write("more", nil), api.OK)
	is(t, "room for none", f.Write("again", nil), api.ErrQuota)
	is(t, "Remove", f.Remove("5"), api.OK)
	is(t, "room for one", f.Write("again", nil), api.OK)
	is(t, "files", len(f.Files()), api.MaxFiles)
}

func TestP1_2Append(t *testing.T) {
	f := fs.New(100)
	write(t, f, "a", "ab")
	done(t, f.SyncDir(""))
	done(t, f.Append("a", []byte("cd")))
	done(t, f.Sync("a"))
	done(t, f.Append("a", []byte("ef")))
	done(t, f.Append("a", nil))
	is(t, "now", told(f.Files()), "a=abcdef")
	is(t, "durable", told(f.Durable()), "a=abcd")
	is(t, "no pending change", crashed(f, 0, 1), "a=abcde")
}

// A file that was brought back by a crash may leave the quota behind.
func TestP1_2AboveQuota(t *testing.T) {
	f := fs.New(10)
	write(t, f, "a", "12345", "b", "12345")
	done(t, f.Sync("a"))
	done(t, f.SyncDir(""))
	done(t, f.Remove("a"))
	done(t, f.Append("b", []byte("67890")))
	f.Crash(0, 99)
	is(t, "Size", f.Size(), 15)
	is(t, "Append of nothing", f.Append("a", nil), api.ErrQuota)
	is(t, "Write of nothing", f.Write("c", nil), api.ErrQuota)
	is(t, "Write of less, still above", f.Write("a", []byte("x")), api.ErrQuota)
	is(t, "Sync", f.Sync("a"), api.OK)
	is(t, "Rename", f.Rename("a", "c"), api.OK)
	is(t, "Write of less, that fits", f.Write("c", nil), api.OK)
	is(t, "Size", f.Size(), 10)
	is(t, "Append of nothing", f.Append("b", nil), api.OK)
}

func TestP1_2Sync(t *testing.T) {
	f := fs.New(100)
	write(t, f, "a", "ab", "b", "cd")
	done(t, f.SyncDir(""))
	is(t, "ahead", told(f.Durable()), "a= b=")
	done(t, f.Sync("b"))
	is(t, "only its bytes", told(f.Durable()), "a= b=cd")
	done(t, f.Append("a", []byte("x")))
	done(t, f.Rename("a", "c"))
	done(t, f.Sync("c"))
	is(t, "the file under its durable name", told(f.Durable()), "a=abx b=cd")
}

func TestP1_2Rename(t *testing.T) {
	f := fs.New(100)
	write(t, f, "p/a", "new", "q/b", "old")
	done(t, f.Sync("p/a"))
	done(t, f.SyncDir("p"))
	done(t, f.SyncDir("q"))
	done(t, f.Append("p/a", []byte("er")))
	done(t, f.Rename("p/a", "q/b"))
	is(t, "now", told(f.Files()), "q/b=newer")
	is(t, "durable", told(f.Durable()), "p/a=new q/b=")
	is(t, "one change: both or none", crashed(f, 1, 0), "q/b=new")
	done(t, f.SyncDir("p"))
	is(t, "not of Dir(from)", told(f.Durable()), "p/a=new q/b=")
	done(t, f.SyncDir("q"))
	is(t, "of Dir(to)", told(f.Durable()), "q/b=new")
}

func TestP1_2RenameToItself(t *testing.T) {
	f := fs.New(100)
	write(t, f, "a", "x")
	steps := f.Steps()
	done(t, f.Rename("a", "a"))
	write(t, f, "b", "y")
	is(t, "there", told(f.Files()), "a=x b=y")
	is(t, "Size", f.Size(), 2)
	is(t, "it is done", f.Steps(), steps+2)
	is(t, "it is no pending change", crashed(f, 2, 9), "a=x b=y")
}

func TestP1_2Remove(t *testing.T) {
	f := fs.New(100)
	write(t, f, "d/a", "x", "d/b", "y")
	done(t, f.Sync("d/a"))
	done(t, f.SyncDir("d"))
	done(t, f.Remove("d/a"))
	is(t, "now", told(f.Files()), "d/b=y")
	is(t, "durable", told(f.Durable()), "d/a=x d/b=")
	is(t, "again", f.Remove("d/a"), api.ErrNone)
	done(t, f.SyncDir(""))
	is(t, "of another directory", told(f.Durable()), "d/a=x d/b=")
	done(t, f.SyncDir("d"))
	is(t, "synced", told(f.Durable()), "d/b=")
}

func TestP1_2SyncDir(t *testing.T) {
	f := fs.New(100)
	write(t, f, "a/x", "", "b/y", "", "a/z", "", "a/b/w", "", "top", "")
	for _, c := range []struct{ dir, want string }{
		{"c", ""},
		{"a/x", ""},
		{"b", "a/x= b/y="},
		{"a", "a/x= a/z= b/y="},
		{"a/b", "a/b/w= a/x= a/z= b/y="},
		{"", "a/b/w= a/x= a/z= b/y= top="},
	} {
		g := f.Copy()
		is(t, "SyncDir", g.SyncDir(c.dir), api.OK)
		is(t, "up to the last of "+c.dir, told(g.Durable()), c.want)
		is(t, "SyncDir again", g.SyncDir(c.dir), api.OK)
		is(t, "nothing more of "+c.dir, told(g.Durable()), c.want)
		is(t, "the rest is still pending", crashed(g, 9, 0), "a/b/w= a/x= a/z= b/y= top=")
	}
	done(t, f.SyncDir("b"))
	is(t, "none of them", crashed(f, 0, 0), "a/x= b/y=")
	is(t, "the first of the rest", crashed(f, 1, 0), "a/x= a/z= b/y=")
}

func TestP1_3Questions(t *testing.T) {
	f := fs.New(100)
	write(t, f, "b", "22", "a", "1", "a/c", "4444", "Z", "333")
	done(t, f.Remove("b"))
	done(t, f.Append("a", []byte("+")))
	check := func(when string) {
		is(t, when+"Files", told(f.Files()), "Z=333 a=1+ a/c=4444")
		is(t, when+"Size", f.Size(), 9)
		is(t, when+"Quota", f.Quota(), 100)
		is(t, when+"Steps", f.Steps(), 6)
		for _, name := range []string{"Z", "a", "a/c"} {
			is(t, when+"Has "+name, f.Has(name), true)
		}
		for _, name := range []string{"", "b", "z", "a/", "/a", "a/c/", "A"} {
			is(t, when+"Has "+name, f.Has(name), false)
			data, e := f.Read(name)
			is(t, when+"Read", e, api.ErrNone)
			is(t, when+"Read", len(data), 0)
		}
		data, e := f.Read("a/c")
		is(t, when+"Read", e, api.OK)
		is(t, when+"Read", string(data), "4444")
	}
	check("")
	f.Arm(1)
	is(t, "Sync", f.Sync("a"), api.ErrDown)
	check("down: ")
}

func TestP1_3ReadEmpty(t *testing.T) {
	f := fs.New(0)
	write(t, f, "a", "")
	data, e := f.Read("a")
	is(t, "error", e, api.OK)
	is(t, "bytes", len(data), 0)
	is(t, "Has", f.Has("a"), true)
}

func TestP1_3List(t *testing.T) {
	f := fs.New(100)
	write(t, f, "a0", "", "a/c", "", "a", "", "a/b/c", "", "a-b", "", "a/b", "", "B", "", "ab/c", "")
	for _, c := range []struct{ dir, want string }{
		{"", "B a a-b a/b a/b/c a/c a0 ab/c"},
		{"a", "a/b a/b/c a/c"},
		{"a/b", "a/b/c"},
		{"ab", "ab/c"},
		{"a/b/c", ""}, {"B", ""}, {"A", ""}, {"a/", ""}, {"/", ""}, {"/a", ""}, {"none", ""}, {"a\x00", ""},
	} {
		is(t, "List of "+strconv.Quote(c.dir), strings.Join(f.List(c.dir), " "), c.want)
	}
	f.Arm(1)
	is(t, "Remove", f.Remove("a"), api.ErrDown)
	is(t, "down: List", len(f.List("a")), 3)
}

func TestP1_3Steps(t *testing.T) {
	for _, c := range goodCases {
		f := errorState(t)
		steps := f.Steps()
		done(t, c.do(f))
		is(t, "Steps behind "+c.text, f.Steps(), steps+1)
	}
	for _, c := range errorCases {
		f := errorState(t)
		steps := f.Steps()
		c.do(f)
		is(t, "Steps behind "+c.text, f.Steps(), steps)
	}
	f := errorState(t)
	steps := f.Steps()
	f.Arm(2)
	done(t, f.Sync("a"))
	is(t, "armed", f.Sync("a"), api.ErrDown)
	is(t, "down", f.Sync("a"), api.ErrDown)
	is(t, "Steps", f.Steps(), steps+1)
	f.Crash(0, 0)
	is(t, "Steps behind a crash", f.Steps(), steps+1)
}

func TestP1_4Durable(t *testing.T) {
	f := fs.New(100)
	write(t, f, "b", "bb", "a", "aa", "A", "AA")
	done(t, f.Sync("a"))
	is(t, "no name is durable", told(f.Durable()), "")
	done(t, f.SyncDir(""))
	is(t, "rising, with their fronts", told(f.Durable()), "A= a=aa b=")
	done(t, f.Append("a", []byte("aa")))
	done(t, f.Rename("b", "c"))
	done(t, f.Remove("A"))
	is(t, "what a crash leaves", told(f.Durable()), crashed(f, 0, 0))
	is(t, "the names that were", told(f.Durable()), "A= a=aa b=")
	f.Arm(1)
	is(t, "Sync", f.Sync("c"), api.ErrDown)
	is(t, "down: the same", told(f.Durable()), "A= a=aa b=")
}

func TestP1_5Arm(t *testing.T) {
	for n := 1; n <= 5; n++ {
		f := errorState(t)
		f.Arm(n)
		for range n - 1 {
			is(t, "an error of its own", f.Sync("none"), api.ErrNone)
			is(t, "ahead of the n-th", f.Append("a", nil), api.OK)
		}
		is(t, "an error of its own", f.Write("a", make([]byte, 99)), api.ErrQuota)
		is(t, "ahead of it", f.Down(), false)
		is(t, "the n-th", f.Append("a", nil), api.ErrDown)
		is(t, "behind it", f.Down(), true)
		is(t, "the next", f.Append("a", nil), api.ErrDown)
	}
}

func TestP1_5ArmNotDone(t *testing.T) {
	for _, c := range goodCases {
		f := errorState(t)
		want := told(f.Files()) + "|" + told(f.Durable()) + "|" + crashed(f, 0, 1) + "|" + crashed(f, 9, 9)
		f.Arm(1)
		is(t, c.text, c.do(f), api.ErrDown)
		got := told(f.Files()) + "|" + told(f.Durable()) + "|" + crashed(f, 0, 1) + "|" + crashed(f, 9, 9)
		is(t, "behind "+c.text, got, want)
	}
}

func TestP1_5Disarm(t *testing.T) {
	for _, n := range []int{0, -1, math.MinInt} {
		f := errorState(t)
		f.Arm(2)
		done(t, f.Sync("a"))
		f.Arm(n)
		for range 5 {
			is(t, "not armed any more", f.Sync("a"), api.OK)
		}
		is(t, "Down", f.Down(), false)
	}
	f := errorState(t)
	f.Arm(1)
	f.Arm(3)
	is(t, "counted anew", arms(f), 3)
	f.Arm(math.MaxInt)
	is(t, "far away", arms(f), 0)
}

func TestP1_5ArmWhileDown(t *testing.T) {
	for _, n := range []int{-1, 0, 1, 3} {
		f := errorState(t)
		f.Arm(1)
		is(t, "the one", f.Sync("a"), api.ErrDown)
		f.Arm(n)
		for range 4 {
			is(t, "down", f.Sync("a"), api.ErrDown)
		}
		is(t, "Down", f.Down(), true)
		f.Crash(9, 9)
		is(t, "up", f.Down(), false)
		is(t, "not armed", arms(f), 0)
	}
}

func TestP1_6CrashNames(t *testing.T) {
	f := fs.New(100)
	write(t, f, "a", "1")
	done(t, f.Sync("a"))
	done(t, f.SyncDir(""))
	write(t, f, "b", "2")
	done(t, f.Rename("a", "c"))
	done(t, f.Remove("b"))
	write(t, f, "c", "3")
	for _, c := range []struct {
		names int
		want  string
	}{
		{math.MinInt, "a=1"}, {-1, "a=1"}, {0, "a=1"}, {1, "a=1 b=2"}, {2, "b=2 c=1"}, {3, "c=1"},
		{4, "c=3"}, {5, "c=3"}, {math.MaxInt, "c=3"},
	} {
		is(t, "Crash of "+strconv.Itoa(c.names), crashed(f, c.names, 9), c.want)
		g := f.Copy()
		g.Crash(c.names, 9)
		is(t, "all of it durable", told(g.Durable()), c.want)
		is(t, "nothing pending", crashed(g, 9, 9), c.want)
		is(t, "Size", g.Size(), count(g.Files()))
	}
}

func TestP1_6CrashBytes(t *testing.T) {
	f := fs.New(100)
	write(t, f, "a", "abcde", "b", "12")
	done(t, f.SyncDir(""))
	done(t, f.Sync("a"))
	done(t, f.Append("a", []byte("fgh")))
	for _, c := range []struct {
		bytes int
		want  string
	}{
		{math.MinInt, "a=abcde b="}, {-1, "a=abcde b="}, {0, "a=abcde b="}, {1, "a=abcdef b=1"},
		{2, "a=abcdefg b=12"}, {3, "a=abcdefgh b=12"}, {4, "a=abcdefgh b=12"}, {math.MaxInt, "a=abcdefgh b=12"},
	} {
		g := f.Copy()
		g.Crash(0, c.bytes)
		is(t, "Crash of "+strconv.Itoa(c.bytes), told(g.Files()), c.want)
		is(t, "all of it durable", told(g.Durable()), c.want)
		is(t, "Size", g.Size(), count(g.Files()))
	}
}

func TestP1_6CrashThenAppend(t *testing.T) {
	f := fs.New(100)
	write(t, f, "a", "abcdef")
	done(t, f.SyncDir(""))
	f.Crash(0, 2)
	done(t, f.Append("a", []byte("XY")))
	is(t, "behind what was kept", told(f.Files()), "a=abXY")
	is(t, "durable", told(f.Durable()), "a=ab")
}

func TestP1_6CrashIsUp(t *testing.T) {
	f := errorState(t)
	f.Arm(1)
	is(t, "the one", f.Sync("a"), api.ErrDown)
	f.Crash(0, 0)
	is(t, "up", f.Down(), false)
	is(t, "Write", f.Write("a", []byte("x")), api.OK)
	f.Arm(2)
	f.Crash(0, 0)
	is(t, "not armed", arms(f), 0)
}

func TestP1_7CopyIsTheSame(t *testing.T) {
	f := errorState(t)
	f.Arm(3)
	done(t, f.Rename("a", "d/b"))
	is(t, "armed", arms(f), 2)
	is(t, "up", state(f.Copy()), state(f))
	done(t, f.Copy().Sync("d/b"))
	is(t, "Sync", f.Sync("d/b"), api.OK)
	is(t, "Sync", f.Sync("d/b"), api.ErrDown)
	is(t, "down", state(f.Copy()), state(f))
	is(t, "Down", f.Copy().Down(), true)
}

// Neither a file system nor its copy sees what is done to the other one.
func TestP1_7CopyIsApart(t *testing.T) {
	calls := append(slices.Clone(goodCases),
		call{"Arm(2)", func(f *fs.FS) api.Errno { f.Arm(2); return api.OK }},
		call{"Arm(0)", func(f *fs.FS) api.Errno { f.Arm(0); return api.OK }},
		call{"Crash(0, 0)", func(f *fs.FS) api.Errno { f.Crash(0, 0); return api.OK }},
		call{"Crash(1, 1)", func(f *fs.FS) api.Errno { f.Crash(1, 1); return api.OK }},
	)
	for _, first := range calls {
		for _, second := range calls {
			f := errorState(t)
			f.Arm(9)
			g, want := f.Copy(), state(f)
			first.do(f)
			is(t, first.text+" seen by the copy", state(g), want)
			want = state(f)
			second.do(g)
			is(t, second.text+" seen by the first, behind "+first.text, state(f), want)
		}
	}
}

func TestP1_7HandedIn(t *testing.T) {
	f := fs.New(100)
	room := []byte("abcdefgh")
	done(t, f.Write("a", room[:2]))
	done(t, f.Append("a", room[2:4]))
	done(t, f.Write("b", room[:0]))
	done(t, f.Append("b", room[4:5]))
	is(t, "not changed", string(room), "abcdefgh")
	for i := range room {
		room[i] = '!'
	}
	is(t, "not kept", told(f.Files()), "a=abcd b=e")
	done(t, f.Append("a", []byte("x")))
	done(t, f.Append("b", []byte("y")))
	is(t, "not written", string(room), "!!!!!!!!")
}

// spoil writes over all that a list of bytes has, and its spare room.
func spoil(data []byte) {
	data = data[:cap(data)]
	for i := range data {
		data[i] = '!'
	}
}

func TestP1_7HandedOut(t *testing.T) {
	f := errorState(t)
	write(t, f, "empty", "")
	want := state(f)
	read, _ := f.Read("a")
	again, _ := f.Read("a")
	spoil(read)
	is(t, "Read again", string(again), "abc")
	for _, tell := range []func() []api.File{f.Files, f.Durable} {
		files, others := tell(), tell()
		for i := range files {
			spoil(files[i].Data)
			files[i].Name = "!"
			_ = append(files[i].Data, "more than there was"...)
		}
		_ = append(files, api.File{Name: "?"})
		is(t, "the files of another answer", told(others), told(tell()))
	}
	for _, dir := range []string{"", "d"} {
		names, others := f.List(dir), f.List(dir)
		for i := range names {
			names[i] = "!"
		}
		_ = append(names, "?")
		is(t, "the names of another answer", strings.Join(others, " "), strings.Join(f.List(dir), " "))
	}
	is(t, "the file system", state(f), want)
}

func TestP1_7HandedOutApart(t *testing.T) {
	f := fs.New(100)
	write(t, f, "a", "11111", "b", "22222", "c", "33333")
	for _, name := range f.List("") {
		done(t, f.Sync(name))
	}
	done(t, f.SyncDir(""))
	for _, files := range [][]api.File{f.Files(), f.Durable()} {
		for i := range files {
			spoil(files[i].Data)
			_ = append(files[i].Data, 'x')
			for _, other := range files[i+1:] {
				if strings.Contains(string(other.Data), "!") {
					t.Errorf("%s shows what was written into %s", other.Name, files[i].Name)
				}
			}
		}
	}
	is(t, "the file system", told(f.Files()), "a=11111 b=22222 c=33333")
}

// A crash may lose what isn't durable, but not what is.
func TestP1_8Kept(t *testing.T) {
	f := fs.New(100)
	write(t, f, "keep", "front")
	done(t, f.Sync("keep"))
	done(t, f.SyncDir(""))
	done(t, f.Append("keep", []byte("+rest")))
	write(t, f, "a", "1", "d/b", "2")
	done(t, f.Rename("a", "d/c"))
	done(t, f.Remove("d/b"))
	for names := -1; names < 6; names++ {
		for bytes := -1; bytes < 8; bytes++ {
			g := f.Copy()
			g.Crash(names, bytes)
			data, e := g.Read("keep")
			is(t, "there", e, api.OK)
			is(t, "at least the front", strings.HasPrefix(string(data), "front"), true)
			is(t, "at most its bytes", strings.HasPrefix("front+rest", string(data)), true)
			once := told(g.Files())
			for again := range 3 {
				g.Crash(again, again)
				is(t, "twice is once", told(g.Files()), once)
				is(t, "twice is once", told(g.Durable()), once)
			}
		}
	}
}

// replace is the way to put a new file in the place of an old one; it ends
// where the file system goes down.
func replace(f *fs.FS) api.Errno {
	for _, c := range []call{
		writeCall("d/new", "new whole"), syncCall("d/new"), renameCall("d/new", "d/name"), syncDirCall("d"),
	} {
		if e := c.do(f); e != api.OK {
			return e
		}
	}
	return api.OK
}

func TestP1_9Atomic(t *testing.T) {
	for arm := range 6 {
		for names := range 4 {
			for bytes := range 12 {
				f := fs.New(100)
				write(t, f, "d/name", "old file")
				done(t, f.Sync("d/name"))
				done(t, f.SyncDir("d"))
				f.Arm(arm)
				e := replace(f)
				f.Crash(names, bytes)
				data, _ := f.Read("d/name")
				if e == api.OK {
					is(t, "synced", string(data), "new whole")
				} else if s := string(data); s != "old file" && s != "new whole" {
					t.Errorf("armed %d, Crash(%d, %d): %q", arm, names, bytes, s)
				}
			}
		}
	}
}

func TestP1_10Refused(t *testing.T) {
	for _, c := range errorCases {
		f := errorState(t)
		f.Arm(4)
		want := state(f)
		is(t, c.text, c.do(f), c.want)
		is(t, "changed by "+c.text, state(f), want)
	}
	for _, c := range goodCases {
		f := errorState(t)
		f.Arm(1)
		is(t, "Sync", f.Sync("a"), api.ErrDown)
		want := state(f)
		is(t, "down: "+c.text, c.do(f), api.ErrDown)
		is(t, "down: changed by "+c.text, state(f), want)
	}
}

func TestP1_10SizeWithinQuota(t *testing.T) {
	for quota := range 12 {
		f := fs.New(quota)
		for i := range 40 {
			name := strconv.Itoa(i % 3)
			f.Write(name, make([]byte, i%5))
			f.Append(name, make([]byte, i%4))
			f.Rename(name, strconv.Itoa(i%4))
			if f.Size() > quota {
				t.Fatalf("Size %d above %d", f.Size(), quota)
			}
			is(t, "Size", f.Size(), count(f.Files()))
		}
	}
}
