package cache_test

import (
	"fmt"
	"strings"
	"testing"

	"mews/api"
	"mews/cache"
	"mews/fs"
)

// badForms is what stands in a name's file that says no blob, while the blob
// of x is there.
func badForms() map[string]string {
	d := modelDigits("x")
	return map[string]string{
		"empty":               "",
		"a newline alone":     "\n",
		"no newline":          d,
		"two newlines":        d + "\n\n",
		"63 digits":           d[:63] + "\n",
		"65 digits":           d + "0\n",
		"63 digits, none":     d[:63],
		"65 digits, none":     d + "0",
		"a great letter":      strings.Replace(d, "d", "D", 1) + "\n",
		"great letters":       strings.ToUpper(d) + "\n",
		"a g first":           "g" + d[1:] + "\n",
		"a g within":          d[:30] + "g" + d[31:] + "\n",
		"a blank":             d[:63] + " \n",
		"a byte below 0":      d[:63] + "/\n",
		"a byte above 9":      d[:63] + ":\n",
		"a byte below a":      d[:63] + "`\n",
		"a byte of none":      d[:30] + "\x00" + d[31:] + "\n",
		"no text":             d[:30] + "\xff" + d[31:] + "\n",
		"a wide digit":        d[:61] + "\uff11\n",
		"a newline within":    d[:30] + "\n" + d[31:] + "\n",
		"a newline ahead":     "\n" + d,
		"a newline on top":    "\n" + d + "\n",
		"a return":            d + "\r\n",
		"a blank behind":      d + "\n ",
		"a blank ahead":       " " + d + "\n",
		"a slash ahead":       "/" + d[1:] + "\n",
		"a slash within":      d[:30] + "/" + d[31:] + "\n",
		"a great letter last": d[:63] + "A\n",
		"a byte above f":      d[:63] + "g\n",
		"another directory":   "../blob/" + d[8:] + "\n",
		"the blob's own name": modelBlob("x") + "\n",
		"the bytes":           "x",
		"twice":               d + "\n" + d + "\n",
	}
}

// badBlobs is what is done to an entry of x so that it is bad, while its name
// says a blob.
func badBlobs() map[string]func(t *testing.T, f *fs.FS) {
	return map[string]func(t *testing.T, f *fs.FS){
		"removed":     func(t *testing.T, f *fs.FS) { done(t, f.Remove(modelBlob("x"))) },
		"other bytes": func(t *testing.T, f *fs.FS) { lay(t, f, modelBlob("x"), "z") },
		"empty":       func(t *testing.T, f *fs.FS) { lay(t, f, modelBlob("x"), "") },
		"longer":      func(t *testing.T, f *fs.FS) { done(t, f.Append(modelBlob("x"), []byte("\n"))) },
		"another one": func(t *testing.T, f *fs.FS) { lay(t, f, nameOf(one()), modelSay("never kept")) },
		"no hash":     func(t *testing.T, f *fs.FS) { lay(t, f, nameOf(one()), strings.Repeat("0", 64)+"\n") },
		"of another": func(t *testing.T, f *fs.FS) {
			lay(t, f, nameOf(one()), modelSay("q"), modelBlob("q"), "x")
		},
	}
}

// eachBad tells caches whose entry one, that was of x, is bad in some way.
func eachBad(t *testing.T, visit func(what string, x checked)) {
	t.Helper()
	all := entries(one(), two(), three())
	for what, text := range badForms() {
		f, c := filled(t)
		lay(t, f, nameOf(one()), text)
		visit("a name's file that is "+what, checked{t, f, c, all})
	}
	for what, spoil := range badBlobs() {
		f, c := filled(t)
		spoil(t, f)
		visit("a blob that is "+what, checked{t, f, c, all})
	}
}

func TestP10_3_New(t *testing.T) {
	for _, data := range []string{"", "x", "\x00", "\n", modelSay("x"), "\xff\xfe", strings.Repeat("long ", 10000)} {
		for _, e := range entries(one(), two(), three()) {
			f, c := fresh(t)
			other(t, f)
			durable(f)
			want := modelOf(f)
			want[nameOf(e)], want[modelBlob(data)] = modelDigits(data)+"\n", data
			isError(t, "Put", c.Put(e, []byte(data)), api.OK)
			has(t, "Put", f, want)
			peeks(t, "behind Put", c, e, data)
			f.Crash(0, 0)
			peeks(t, "behind a crash", opens(t, f), e, data)
		}
	}
	f, c := fresh(t)
	isError(t, "Put of nil", c.Put(one(), nil), api.OK)
	has(t, "Put of nil", f, map[string]string{nameOf(one()): modelSay(""), modelBlob(""): ""})
}

func TestP10_3_Whole(t *testing.T) {
	for how, ahead := range ups() {
		f, c := filled(t)
		ahead(f)
		for _, kept := range []struct {
			e    cache.Entry
			data string
		}{{one(), "x"}, {two(), "yy"}, {three(), "x"}} {
			unchanged(t, how, f, func() {
				isError(t, how+", the same", c.Put(kept.e, []byte(kept.data)), api.OK)
				for _, data := range []string{"", "y", "xx", kept.data + "\n", modelSay(kept.data)} {
					isError(t, how+", other data", c.Put(kept.e, []byte(data)), api.ErrMismatch)
				}
			})
			peeks(t, how, c, kept.e, kept.data)
		}
	}
}

// Also where all that there is room for is there.
func TestP10_3_WholeWithoutRoom(t *testing.T) {
	was, _ := filled(t)
	f := fs.New(was.Size())
	for _, file := range was.Files() {
		done(t, f.Write(file.Name, file.Data))
	}
	c := opens(t, f)
	unchanged(t, "Put", f, func() {
		isError(t, "the same", c.Put(one(), []byte("x")), api.OK)
		isError(t, "other data", c.Put(one(), []byte("y")), api.ErrMismatch)
		isError(t, "another entry", c.Put(entry("a.b", "v1.0.0", "mod"), []byte("x")), api.ErrQuota)
	})
}

func TestP10_3_Bad(t *testing.T) {
	for _, data := range []string{"x", "z", "", "other data"} {
		eachBad(t, func(what string, x checked) {
			x.put(one(), data)
			peeks(t, what, x.c, one(), data)
			x.list()
			x.put(one(), data)
			x.put(one(), data+"!")
		})
	}
}

// Put writes its blob, whatever stands there.
func TestP10_3_BlobThatWasThere(t *testing.T) {
	for _, was := range []string{"data", "", "spoilt"} {
		f, c := fresh(t)
		lay(t, f, modelBlob("data"), was)
		checked{t, f, c, nil}.put(one(), "data")
		f.Crash(0, 0)
		peeks(t, "behind a crash", opens(t, f), one(), "data")
	}
}

func TestP10_3_OrderOfErrors(t *testing.T) {
	f, c := filled(t)
	big := []byte(strings.Repeat("x", 1<<20))
	lay(t, f, modelBlob("yy"), "spoilt")
	isError(t, "a kind and no room", c.Put(entry("a.b/C", "v1.0.0", "txt"), big), api.ErrKind)
	isError(t, "a module and no room", c.Put(entry("a.b/C", "v2.0.0", "mod"), big), api.ErrMajor)
	isError(t, "a name and no room", c.Put(long("mod", api.MaxName+1), big), api.ErrName)
	isError(t, "other data and no room", c.Put(one(), big), api.ErrMismatch)
	isError(t, "bad, and no room", c.Put(two(), big), api.ErrQuota)
	isError(t, "new, and no room", c.Put(entry("a.b", "v1.0.0", "mod"), big), api.ErrQuota)
	downed(f)
	isError(t, "a kind, down", c.Put(entry("a.b/C", "v1.0.0", "txt"), big), api.ErrKind)
	isError(t, "a module, down", c.Put(entry("a.b/C", "v1.0.0.0", "mod"), big), api.ErrVersion)
	isError(t, "a name, down", c.Put(long("mod", api.MaxName+1), big), api.ErrName)
	isError(t, "other data, down", c.Put(one(), big), api.ErrMismatch)
	isError(t, "the same, down", c.Put(one(), []byte("x")), api.OK)
	isError(t, "bad, down", c.Put(two(), []byte("yy")), api.ErrDown)
	isError(t, "new, down, no room", c.Put(entry("a.b", "v1.0.0", "mod"), big), api.ErrDown)
}

// bounded is a copy of files in a file system of a quota, and its cache.
func bounded(t *testing.T, was *fs.FS, quota int) checked {
	t.Helper()
	f := fs.New(quota)
	for _, file := range was.Files() {
		done(t, f.Write(file.Name, file.Data))
	}
	durable(f)
	return checked{t, f, opens(t, f), entries(one(), two(), three())}
}

func TestP10_3_Quota(t *testing.T) {
	for _, data := range []string{"", "x", "new data"} {
		was, _ := filled(t)
		e := entry("a.b", "v1.0.0", "zip")
		_, l := modelOf(was).put(e, data)
		size, _ := need(was, l)
		x := bounded(t, was, size-1)
		isError(t, "one beyond", refusal(x.f, l), api.ErrQuota)
		x.put(e, data)
		peeksNot(t, "one beyond", x.c, e, api.ErrNone)
		x = bounded(t, was, size)
		x.put(e, data)
		peeks(t, "just at the quota", x.c, e, data)
	}
}

// crowded is a file system with so many files, and its cache.
func crowded(t *testing.T, count int) (*fs.FS, *cache.Cache) {
	t.Helper()
	f, c := fresh(t)
	keeps(t, c, one(), "x")
	for i := len(f.List("")); i < count; i++ {
		done(t, f.Write(fmt.Sprint("full/", i), nil))
	}
	return f, c
}

func TestP10_3_Files(t *testing.T) {
	f, c := crowded(t, api.MaxFiles-2)
	before := told(f.Files())
	isError(t, "one beyond", c.Put(two(), []byte("y")), api.ErrQuota)
	is(t, "the files", told(f.Files()), before)
	_, c = crowded(t, api.MaxFiles-3)
	isError(t, "just as many", c.Put(two(), []byte("y")), api.OK)
	peeks(t, "just as many", c, two(), "y")
}
