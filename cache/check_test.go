package cache_test

import (
	"testing"

	"mews/api"
	"mews/cache"
	"mews/fs"
	"mews/journal"
)

// checked is a cache whose every call is held against the model.
type checked struct {
	t   *testing.T
	f   *fs.FS
	c   *cache.Cache
	all []cache.Entry // the entries that may be met
}

// transaction fails the test unless a call answers what its transaction does,
// and the files are what that makes of them; answer is what it is beside OK.
func (x checked) transaction(what string, l []journal.Change, answer api.Errno, call func() api.Errno) {
	x.t.Helper()
	m, before, want := modelOf(x.f), state(x.f), refusal(x.f, l)
	if want != api.OK {
		isError(x.t, what, call(), want)
		is(x.t, "the files behind "+what, state(x.f), before)
		return
	}
	isError(x.t, what, call(), answer)
	now := m.behind(l)
	is(x.t, "the files behind "+what, told(x.f.Files()), told(modelFiles(now)))
	x.settled(what, now, l)
}

// settled fails the test unless what was changed is durable.
func (x checked) settled(what string, now model, l []journal.Change) {
	x.t.Helper()
	for _, names := range []int{0, 1, 100} {
		left := modelOf(crash(x.f, names, 0))
		for _, c := range l {
			data, there := left[c.Name]
			if want, stays := now[c.Name]; there != stays || data != want {
				x.t.Errorf("%s: behind a crash %s has %s", what, c.Name, brief(data))
			}
		}
	}
}

func (x checked) put(e cache.Entry, data string) {
	x.t.Helper()
	what := "Put of " + brief(e) + " with " + brief(data)
	errno, l := modelOf(x.f).put(e, data)
	call := func() api.Errno { return x.c.Put(e, []byte(data)) }
	if l != nil {
		x.transaction(what, l, api.OK, call)
		return
	}
	unchanged(x.t, what, x.f, func() { isError(x.t, what, call(), errno) })
}

func (x checked) peek(e cache.Entry) {
	x.t.Helper()
	data, errno := modelOf(x.f).peek(e)
	unchanged(x.t, "Peek", x.f, func() {
		b, got := x.c.Peek(e)
		isError(x.t, "Peek of "+brief(e), got, errno)
		is(x.t, "Peek of "+brief(e), string(b), data)
		is(x.t, "Has of "+brief(e), x.c.Has(e), errno == api.OK)
	})
}

func (x checked) get(e cache.Entry) {
	x.t.Helper()
	what := "Get of " + brief(e)
	m := modelOf(x.f)
	data, errno := m.peek(e)
	call := func() api.Errno {
		b, got := x.c.Get(e)
		is(x.t, what, string(b), data)
		return got
	}
	if errno == api.ErrCorrupt {
		x.transaction(what, m.aside(e), api.ErrCorrupt, call)
		return
	}
	unchanged(x.t, what, x.f, func() { isError(x.t, what, call(), errno) })
}

func (x checked) list() {
	x.t.Helper()
	m := modelOf(x.f)
	unchanged(x.t, "List and Bad", x.f, func() {
		is(x.t, "List", toldEntries(x.c.List()), toldEntries(m.list(x.all)))
		is(x.t, "Bad", toldEntries(x.c.Bad()), toldEntries(m.bad(x.all)))
	})
}

func (x checked) sweep(keep ...cache.Entry) {
	x.t.Helper()
	what := "Sweep of all but " + brief(keep)
	l := modelOf(x.f).sweep(x.all, keep)
	x.transaction(what, l, api.OK, func() api.Errno {
		n, errno := x.c.Sweep(keep)
		if errno == api.OK {
			is(x.t, what+", how many files went", n, len(l))
		} else {
			is(x.t, what+", how many files went beside an error", n, 0)
		}
		return errno
	})
}
