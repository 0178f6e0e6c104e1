package tlog_test

import (
	"fmt"
	"math/rand"
	"slices"
	"testing"

	"mews/api"
	"mews/ark"
	"mews/tlog"
)

// most is up to how many records each i, m and n is tried.
const most = 34

// asker is a read that remembers what it was asked, and answers an error
// at one of its calls (from 0 on; -1: at none).
type asker struct {
	asked []tree
	fails int
}

// errorAt is the error of a call: unlike calls have unlike ones.
func errorAt(call int) api.Errno { return api.Errno(1000 + call) }

func (a *asker) read(level, k int) ([]byte, api.Errno) {
	a.asked = append(a.asked, tree{level, k})
	if call := len(a.asked) - 1; call == a.fails {
		// What stands beside an error is not looked at.
		return drawnHash(level, k), errorAt(call)
	}
	return drawnHash(level, k), api.OK
}

// unasked is a read that may not be asked.
func unasked(t *testing.T) tlog.Read {
	return func(level, k int) ([]byte, api.Errno) {
		t.Errorf("read is asked for %d %d", level, k)
		return make([]byte, 32), api.OK
	}
}

func TestP7_2_Examples(t *testing.T) {
	b, e := tlog.New().Root(0)
	is(t, "Root(0) of a new log", ark.Hex(b), "e3b0c44298fc1c149afbf4c8996fb92427ae41e4649b934ca495991b7852b855")
	is(t, "its error", e, api.OK)
	l := made(t, 5)
	for _, x := range []struct{ i, n, count int }{{0, 1, 0}, {0, 5, 3}, {4, 5, 1}} {
		p, e := l.Prove(x.i, x.n)
		is(t, fmt.Sprint("Prove ", x, ", its error"), e, api.OK)
		is(t, fmt.Sprint("Prove ", x), len(p), x.count)
	}
	for _, x := range [][2]int{{0, 0}, {2, 2}} {
		p, e := l.Prove(x[0], x[1])
		answersHashes(t, fmt.Sprint("Prove ", x), p, e, nil, api.ErrRange)
	}
	for _, x := range []struct{ m, n, count int }{{0, 3, 0}, {3, 3, 0}, {3, 5, 4}, {4, 5, 1}} {
		p, e := l.ProveTree(x.m, x.n)
		is(t, fmt.Sprint("ProveTree ", x, ", its error"), e, api.OK)
		is(t, fmt.Sprint("ProveTree ", x), len(p), x.count)
	}
}

// Each number of records, by the log and by what it reads, of a log that has
// just these records and of one that has more.
func TestP7_2_EachNumber(t *testing.T) {
	all := records(most + 5)
	longer := made(t, most+5)
	for n := range most + 1 {
		l := made(t, n)
		want := modelHash(all[:n])
		for _, root := range []func() ([]byte, api.Errno){
			func() ([]byte, api.Errno) { return l.Root(n) },
			func() ([]byte, api.Errno) { return longer.Root(n) },
			func() ([]byte, api.Errno) { return tlog.Root(n, l.Hash) },
		} {
			b, e := root()
			answersBytes(t, fmt.Sprint("Root ", n), b, e, want, api.OK)
		}
		for i := range n {
			for _, prove := range []func() ([][]byte, api.Errno){
				func() ([][]byte, api.Errno) { return l.Prove(i, n) },
				func() ([][]byte, api.Errno) { return longer.Prove(i, n) },
				func() ([][]byte, api.Errno) { return tlog.Prove(i, n, l.Hash) },
			} {
				p, e := prove()
				answersHashes(t, fmt.Sprint("Prove ", i, " ", n), p, e, modelPath(i, all[:n]), api.OK)
			}
		}
		for m := range n + 1 {
			for _, prove := range []func() ([][]byte, api.Errno){
				func() ([][]byte, api.Errno) { return l.ProveTree(m, n) },
				func() ([][]byte, api.Errno) { return longer.ProveTree(m, n) },
				func() ([][]byte, api.Errno) { return tlog.ProveTree(m, n, l.Hash) },
			} {
				p, e := prove()
				answersHashes(t, fmt.Sprint("ProveTree ", m, " ", n), p, e, modelGrowth(m, all[:n]), api.OK)
			}
		}
	}
}

// Numbers that are none: by the functions no read is asked, by the methods all
// beyond the log's size are none, too.
func TestP7_2_Range(t *testing.T) {
	l := made(t, 9)
	for _, n := range append(edges(), 10) {
		if n < 0 || n > api.MaxRecords {
			b, e := tlog.Root(n, unasked(t))
			answersBytes(t, fmt.Sprint("Root ", n), b, e, nil, api.ErrRange)
		}
		if n < 0 || n > 9 {
			b, e := l.Root(n)
			answersBytes(t, fmt.Sprint("the log's Root ", n), b, e, nil, api.ErrRange)
		}
		for _, i := range append(edges(), n, n+1, n-1) {
			what := fmt.Sprint("Prove ", i, " ", n)
			if n < 1 || n > api.MaxRecords || i < 0 || i >= n {
				p, e := tlog.Prove(i, n, unasked(t))
				answersHashes(t, what, p, e, nil, api.ErrRange)
			}
			if n < 1 || n > 9 || i < 0 || i >= n {
				p, e := l.Prove(i, n)
				answersHashes(t, "the log's "+what, p, e, nil, api.ErrRange)
			}
			what = fmt.Sprint("ProveTree ", i, " ", n)
			if n < 0 || n > api.MaxRecords || i < 0 || i > n {
				p, e := tlog.ProveTree(i, n, unasked(t))
				answersHashes(t, what, p, e, nil, api.ErrRange)
			}
			if n < 0 || n > 9 || i < 0 || i > n {
				p, e := l.ProveTree(i, n)
				answersHashes(t, "the log's "+what, p, e, nil, api.ErrRange)
			}
		}
	}
}

// A log that is empty has a root, and the one proof of no records in none.
func TestP7_2_EmptyLog(t *testing.T) {
	l := tlog.New()
	b, e := l.Root(0)
	answersBytes(t, "Root(0)", b, e, sum(), api.OK)
	b, e = l.Root(1)
	answersBytes(t, "Root(1)", b, e, nil, api.ErrRange)
	p, e := l.ProveTree(0, 0)
	answersHashes(t, "ProveTree(0, 0)", p, e, nil, api.OK)
	for _, x := range [][2]int{{0, 1}, {1, 1}, {1, 0}, {-1, 0}} {
		p, e := l.ProveTree(x[0], x[1])
		answersHashes(t, fmt.Sprint("ProveTree ", x), p, e, nil, api.ErrRange)
	}
}

// Where nothing is asked, read may be whatever it is.
func TestP7_2_NothingAsked(t *testing.T) {
	for _, read := range []tlog.Read{unasked(t), nil} {
		b, e := tlog.Root(0, read)
		answersBytes(t, "Root(0)", b, e, sum(), api.OK)
		p, e := tlog.Prove(0, 1, read)
		answersHashes(t, "Prove(0, 1)", p, e, nil, api.OK)
		for _, n := range []int{0, 1, 3, api.MaxRecords} {
			p, e = tlog.ProveTree(0, n, read)
			answersHashes(t, fmt.Sprint("ProveTree 0 ", n), p, e, nil, api.OK)
			p, e = tlog.ProveTree(n, n, read)
			answersHashes(t, fmt.Sprint("ProveTree ", n, " ", n), p, e, nil, api.OK)
		}
	}
}

// A read that is nil makes no call panic.
func TestP7_2_NoRead(t *testing.T) {
	b, e := tlog.Root(3, nil)
	answersBytes(t, "Root(3)", b, e, nil, api.ErrRange)
	p, e := tlog.Prove(0, 3, nil)
	answersHashes(t, "Prove(0, 3)", p, e, nil, api.ErrRange)
	p, e = tlog.ProveTree(1, 3, nil)
	answersHashes(t, "ProveTree(1, 3)", p, e, nil, api.ErrRange)
}

// sizes is numbers of records: all up to some, and some up to the greatest.
func sizes() []int {
	chance := rand.New(rand.NewSource(72))
	var list []int
	for n := range 130 {
		list = append(list, n)
	}
	for level := 7; level <= 20; level++ {
		list = append(list, 1<<level-1, 1<<level, 1<<level+1)
	}
	for range 200 {
		list = append(list, 1+chance.Intn(api.MaxRecords))
	}
	return slices.DeleteFunc(list, func(n int) bool { return n > api.MaxRecords })
}

// drawn is some numbers below n, with the first and the last ones.
func drawn(chance *rand.Rand, n int) []int {
	list := []int{0, n / 2, n - 1}
	for range 6 {
		list = append(list, chance.Intn(n))
	}
	return list
}

// failing fails the test unless a call asks for these trees in their order, and
// answers each read's error, be it the one of whichever call.
func failing(t *testing.T, what string, asked []tree, call func(read tlog.Read) (nothing bool, e api.Errno)) {
	t.Helper()
	for fails := range asked {
		a := &asker{fails: fails}
		nothing, e := call(a.read)
		is(t, fmt.Sprint(what, " with an error at call ", fails), e, errorAt(fails))
		is(t, what+", nothing beside the error", nothing, true)
		areList(t, what+", the trees that are asked up to the error", a.asked, asked[:fails+1])
	}
}

func TestP7_2_RootAsks(t *testing.T) {
	for _, n := range sizes() {
		what, want := fmt.Sprint("Root ", n), modelTrees(0, n)
		a := &asker{fails: -1}
		got, e := tlog.Root(n, a.read)
		is(t, what+", its error", e, api.OK)
		areList(t, what+", the trees that are asked", a.asked, want)
		if n > 0 {
			isBytes(t, what, got, modelFold(want))
		}
		failing(t, what, want, func(read tlog.Read) (bool, api.Errno) {
			b, e := tlog.Root(n, read)
			return len(b) == 0, e
		})
	}
}

func TestP7_2_ProveAsks(t *testing.T) {
	chance := rand.New(rand.NewSource(720))
	for _, n := range sizes()[1:] {
		for _, i := range drawn(chance, n) {
			parts := modelPathParts(i, n)
			proves(t, fmt.Sprint("Prove ", i, " ", n), parts, func(read tlog.Read) ([][]byte, api.Errno) { return tlog.Prove(i, n, read) })
		}
	}
}

func TestP7_2_ProveTreeAsks(t *testing.T) {
	chance := rand.New(rand.NewSource(721))
	for _, n := range sizes()[1:] {
		for _, m := range append(drawn(chance, n), n) {
			parts := modelGrowthParts(m, n)
			proves(t, fmt.Sprint("ProveTree ", m, " ", n), parts, func(read tlog.Read) ([][]byte, api.Errno) { return tlog.ProveTree(m, n, read) })
		}
	}
}

// proves fails the test unless a call answers the hashes of these records, and
// asks for their whole trees alone.
func proves(t *testing.T, what string, parts []stretch, call func(read tlog.Read) ([][]byte, api.Errno)) {
	t.Helper()
	var want [][]byte
	for _, p := range parts {
		want = append(want, modelFold(modelTrees(p.a, p.b)))
	}
	a := &asker{fails: -1}
	got, e := call(a.read)
	answersHashes(t, what, got, e, want, api.OK)
	areList(t, what+", the trees that are asked", a.asked, modelAsked(parts))
	failing(t, what, modelAsked(parts), func(read tlog.Read) (bool, api.Errno) {
		p, e := call(read)
		return len(p) == 0, e
	})
}

// A log's own read never fails, so the parts agree with the words by records.
func TestP7_2_PartsAreThose(t *testing.T) {
	all := records(most)
	for n := 1; n <= most; n++ {
		for i := range n {
			var want [][]byte
			for _, p := range modelPathParts(i, n) {
				want = append(want, modelHash(all[p.a:p.b]))
			}
			areHashes(t, "a path by its parts", want, modelPath(i, all[:n]))
		}
		for m := range n + 1 {
			var want [][]byte
			for _, p := range modelGrowthParts(m, n) {
				want = append(want, modelHash(all[p.a:p.b]))
			}
			areHashes(t, "a proof of consistency by its parts", want, modelGrowth(m, all[:n]))
		}
	}
}

// The greatest log: its proofs are those by its own hashes.
func TestP7_2_FullLog(t *testing.T) {
	l := full()
	chance := rand.New(rand.NewSource(722))
	for _, n := range []int{1, api.MaxRecords / 2, api.MaxRecords/2 + 1, api.MaxRecords - 1, api.MaxRecords} {
		root, e := l.Root(n)
		is(t, "Root's error", e, api.OK)
		for _, i := range drawn(chance, n) {
			p, e := l.Prove(i, n)
			is(t, "Prove's error", e, api.OK)
			is(t, "Prove's hashes", len(p), len(modelPathParts(i, n)))
			leaf, _ := l.Hash(0, i)
			is(t, "what Prove proves", modelCheckRecord(p, i, n, leaf, root), api.OK)
			q, e := l.ProveTree(i, n)
			is(t, "ProveTree's error", e, api.OK)
			old, _ := l.Root(i)
			is(t, "what ProveTree proves", modelCheckTree(q, i, n, old, root), api.OK)
		}
	}
}
