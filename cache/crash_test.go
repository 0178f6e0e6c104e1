package cache_test

import (
	"fmt"
	"math"
	"math/rand"
	"testing"

	"mews/api"
	"mews/cache"
	"mews/fs"
)

// call is a call of a cache that may be interrupted, and what it answers if it
// isn't.
type call struct {
	what   string
	do     func(c *cache.Cache) api.Errno
	answer api.Errno
}

// sweeps is a call of Sweep.
func sweeps(keep ...cache.Entry) func(c *cache.Cache) api.Errno {
	return func(c *cache.Cache) api.Errno {
		_, errno := c.Sweep(keep)
		return errno
	}
}

// puts is a call of Put.
func puts(e cache.Entry, data string) func(c *cache.Cache) api.Errno {
	return func(c *cache.Cache) api.Errno { return c.Put(e, []byte(data)) }
}

// gets is a call of Get.
func gets(e cache.Entry) func(c *cache.Cache) api.Errno {
	return func(c *cache.Cache) api.Errno {
		_, errno := c.Get(e)
		return errno
	}
}

// The entries that are bad where calls are interrupted.
func badBlob() cache.Entry { return entry("bad.b", "v1.0.0", "zip") }
func badName() cache.Entry { return entry("bad.n", "v1.0.0", "zip") }
func newOne() cache.Entry  { return entry("new.n", "v1.0.0", "zip") }

// calls is what is interrupted: each of them keeps what filled has.
func calls() []call {
	return []call{
		{"Put of new bytes", puts(newOne(), "new"), api.OK},
		{"Put of bytes that are kept", puts(newOne(), "x"), api.OK},
		{"Put of nothing", puts(newOne(), ""), api.OK},
		{"Put of a bad blob", puts(badBlob(), "bad"), api.OK},
		{"Put of other bytes of a bad one", puts(badBlob(), "x"), api.OK},
		{"Put of a bad name", puts(badName(), "x"), api.OK},
		{"Get of a bad blob", gets(badBlob()), api.ErrCorrupt},
		{"Get of a bad name", gets(badName()), api.ErrCorrupt},
		{"Sweep", sweeps(one(), two(), three()), api.OK},
		{"Sweep that keeps a bad one", sweeps(badBlob(), three(), two(), one()), api.OK},
	}
}

// troubled is a file system whose cache has the three entries, which Put
// answered OK for, and bad ones beside them, all of it durable.
func troubled(t *testing.T) *fs.FS {
	t.Helper()
	f, c := fresh(t)
	keeps(t, c, badBlob(), "bad")
	lay(t, f, modelBlob("bad"), "spoilt", nameOf(badName()), "nothing", "cache/blob/stray", "stray", "a", "other")
	durable(f)
	keeps(t, c, one(), "x")
	keeps(t, c, two(), "yy")
	keeps(t, c, three(), "x")
	return f
}

// explorer lets Open be interrupted and crash, again and again, in every way.
type explorer struct {
	t     *testing.T
	what  string
	after map[string]string // what may be there behind an Open that answers OK: what that is called
	seen  map[string]int    // the files behind crashes that were gone on with
	met   map[string]int    // what was there, how often
}

// crashes goes on with many crashes of a file system.
func (x *explorer) crashes(f *fs.FS) {
	x.t.Helper()
	for _, names := range []int{-1, 0, 1, 2, 3, 4, 5, 6, 7, math.MaxInt} {
		for _, bytes := range []int{-1, 0, 1, 15, 64, 65, 200, 300, math.MaxInt} {
			g := crash(f, names, bytes)
			files := told(g.Files())
			if x.seen[files]++; x.seen[files] == 1 {
				x.explore(g)
			}
		}
	}
}

// explore opens a file system's cache, interrupted at each step.
func (x *explorer) explore(f *fs.FS) {
	x.t.Helper()
	for step := 1; ; step++ {
		g := f.Copy()
		g.Arm(step)
		c, errno := cache.Open(g, dir)
		if errno == api.OK {
			g.Arm(0)
			x.opened(g, c)
			return
		}
		isDown(x.t, x.what+", Open", g, errno)
		is(x.t, x.what+", Open", c, nil)
		x.crashes(g)
	}
}

// opened looks at a cache behind an Open that answered OK.
func (x *explorer) opened(g *fs.FS, c *cache.Cache) {
	x.t.Helper()
	files := told(g.Files())
	if x.met[x.after[files]]++; x.after[files] == "" {
		x.t.Fatalf("%s: a mixture: %s", x.what, brief(files))
	}
	unchanged(x.t, "another Open", g, func() { opens(x.t, g) })
	peeks(x.t, x.what, c, one(), "x")
	peeks(x.t, x.what, c, two(), "yy")
	peeks(x.t, x.what, c, three(), "x")
	for _, e := range c.List() {
		b, errno := c.Get(e)
		is(x.t, x.what+", what is told of "+brief(e), errno == api.OK || errno == api.ErrCorrupt, true)
		if errno == api.OK {
			is(x.t, x.what+", the digits", modelSay(string(b)), modelOf(g)[nameOf(e)])
		}
	}
}

// isDown ends the test unless a call was interrupted.
func isDown(t *testing.T, what string, f *fs.FS, errno api.Errno) {
	t.Helper()
	if errno != api.ErrDown || !f.Down() {
		t.Fatalf("%s, interrupted: error %d", what, errno)
	}
}

// What Put answered OK for is told behind a crash at any step of a later call,
// whatever it keeps, also where Open is interrupted so; and each call is done
// as a whole or not at all.
func TestP10_8_Interrupted(t *testing.T) {
	for _, call := range calls() {
		f := troubled(t)
		was := f.Copy()
		isError(t, call.what, call.do(opens(t, f)), call.answer)
		is(t, call.what+", whether anything changes", told(was.Files()) != told(f.Files()), true)
		x := &explorer{t: t, what: call.what, seen: map[string]int{}, met: map[string]int{}}
		x.after = map[string]string{told(was.Files()): "ahead", told(f.Files()): "behind"}
		for step := 1; ; step++ {
			g := was.Copy()
			c := opens(t, g)
			g.Arm(step)
			errno := call.do(c)
			if errno == call.answer {
				x.crashes(g)
				break
			}
			isDown(t, call.what, g, errno)
			x.crashes(g)
		}
		is(t, call.what+", whether both were met", x.met["ahead"] > 0 && x.met["behind"] > 0, true)
	}
}

// sure fails the test unless the files behind any crash, and Open, are these.
func sure(t *testing.T, what string, f *fs.FS) {
	t.Helper()
	x := &explorer{t: t, what: what, seen: map[string]int{}, met: map[string]int{}}
	x.after = map[string]string{told(f.Files()): "behind"}
	x.crashes(f)
}

func TestP10_8_Answered(t *testing.T) {
	for _, call := range calls() {
		f := troubled(t)
		isError(t, call.what, call.do(opens(t, f)), call.answer)
		sure(t, call.what, f)
	}
}

// An entry that a Sweep doesn't keep is there behind a crash, or gone; what it
// keeps is told.
func TestP10_8_SweptOrNot(t *testing.T) {
	met := map[bool]int{}
	for step := 1; ; step++ {
		f := troubled(t)
		c := opens(t, f)
		f.Arm(step)
		_, errno := c.Sweep(entries(two()))
		if errno != api.OK {
			isDown(t, "Sweep", f, errno)
		}
		f.Crash(step%3, 50*(step%4))
		c = opens(t, f)
		peeks(t, "kept", c, two(), "yy")
		is(t, "whether both are there", c.Has(one()), c.Has(three()))
		is(t, "whether a blob is there", f.Has(modelBlob("x")), c.Has(one()))
		met[c.Has(one())]++
		if errno == api.OK {
			is(t, "whether it is there", c.Has(one()), false)
			break
		}
	}
	is(t, "whether both were met", met[true] > 0 && met[false] > 0, true)
}

// walker keeps what Put answered OK for, and no Sweep let go since.
type walker struct {
	t      *testing.T
	chance *rand.Rand
	f      *fs.FS
	c      *cache.Cache
	kept   map[cache.Entry]string
}

// step is one call, perhaps interrupted. What an interrupted Sweep didn't keep
// may be there, or not.
func (w *walker) step(all []cache.Entry) {
	e, data := all[w.chance.Intn(len(all))], fmt.Sprint(w.chance.Intn(4))
	if w.chance.Intn(3) == 0 {
		w.f.Arm(1 + w.chance.Intn(14))
	}
	switch w.chance.Intn(8) {
	case 0:
		keep := w.someKept()
		w.c.Sweep(keep)
		left := map[cache.Entry]string{}
		for _, e := range keep {
			left[e] = w.kept[e]
		}
		w.kept = left
	case 1, 2:
		w.c.Get(e)
	default:
		if w.c.Put(e, []byte(data)) == api.OK {
			w.kept[e] = data
		}
	}
}

// someKept is some of what is kept.
func (w *walker) someKept() []cache.Entry {
	var l []cache.Entry
	for _, e := range w.c.List() {
		if _, ok := w.kept[e]; ok && w.chance.Intn(4) > 0 {
			l = append(l, e)
		}
	}
	return l
}

// reopen lets the file system crash, and opens the cache, perhaps interrupted.
func (w *walker) reopen() {
	for {
		w.f.Crash(w.chance.Intn(6)-1, w.chance.Intn(300)-1)
		w.f.Arm(w.chance.Intn(20))
		c, errno := cache.Open(w.f, dir)
		if errno == api.OK {
			w.f.Arm(0)
			w.c = c
			return
		}
		isDown(w.t, "Open", w.f, errno)
	}
}

func TestP10_8_Walks(t *testing.T) {
	chance := rand.New(rand.NewSource(108))
	all := append(ordered()[:6], one(), two(), three())
	for range 150 {
		f, c := fresh(t)
		w := &walker{t, chance, f, c, map[cache.Entry]string{}}
		for range 30 {
			w.step(all)
			if f.Down() || chance.Intn(4) == 0 {
				w.reopen()
			}
			for e, data := range w.kept {
				peeks(t, "kept", w.c, e, data)
			}
		}
	}
}
