package fs_test

import (
	"fmt"
	"maps"
	"math/rand"
	"slices"
	"strings"
	"testing"

	"mews/api"
	"mews/fs"
)

// model is the file system told another way: each pending change is the whole
// of the names behind it.
type model struct {
	quota, steps, armed int
	down                bool
	now, durable        names
	pending             []moment
}

type names map[string]*content

type content struct {
	data    string
	durable int
}

type moment struct {
	dir   string
	names names
}

func (m *model) size() int {
	sum := 0
	for _, c := range m.now {
		sum += len(c.data)
	}
	return sum
}

// set makes the names behind a change the names of now.
func (m *model) set(dir string, change func(n names)) {
	m.now = maps.Clone(m.now)
	change(m.now)
	m.pending = append(m.pending, moment{dir, m.now})
}

// settle makes the names behind so many pending changes durable.
func (m *model) settle(count int) {
	if count > 0 {
		m.durable = m.pending[count-1].names
		m.pending = m.pending[count:]
	}
}

// step does a write that has an error of its own, or does what it is to do.
func (m *model) step(own api.Errno, do func()) api.Errno {
	if m.down {
		return api.ErrDown
	}
	if own != api.OK {
		return own
	}
	if m.armed > 0 {
		m.armed--
		if m.armed == 0 {
			m.down = true
			return api.ErrDown
		}
	}
	m.steps++
	do()
	return api.OK
}

func (m *model) write(name, data string) api.Errno {
	own := api.OK
	behind := maps.Clone(m.now)
	behind[name] = &content{data: data}
	if !fs.Valid(name) {
		own = api.ErrName
	} else if (&model{now: behind}).size() > m.quota || len(behind) > api.MaxFiles {
		own = api.ErrQuota
	}
	return m.step(own, func() {
		m.set(fs.Dir(name), func(n names) { n[name] = &content{data: data} })
	})
}

func (m *model) append(name, data string) api.Errno {
	own := m.none(name)
	if own == api.OK && m.size()+len(data) > m.quota {
		own = api.ErrQuota
	}
	return m.step(own, func() { m.now[name].data += data })
}

func (m *model) none(name string) api.Errno {
	if m.now[name] == nil {
		return api.ErrNone
	}
	return api.OK
}

func (m *model) sync(name string) api.Errno {
	return m.step(m.none(name), func() { m.now[name].durable = len(m.now[name].data) })
}

func (m *model) rename(from, to string) api.Errno {
	own := m.none(from)
	if own == api.OK && !fs.Valid(to) {
		own = api.ErrName
	}
	return m.step(own, func() {
		if from == to {
			return
		}
		m.set(fs.Dir(to), func(n names) { n[to] = n[from]; delete(n, from) })
	})
}

func (m *model) remove(name string) api.Errno {
	return m.step(m.none(name), func() {
		m.set(fs.Dir(name), func(n names) { delete(n, name) })
	})
}

func (m *model) syncDir(dir string) api.Errno {
	own := api.OK
	if dir != "" && !fs.Valid(dir) {
		own = api.ErrName
	}
	return m.step(own, func() {
		for i := len(m.pending) - 1; i >= 0; i-- {
			if m.pending[i].dir == dir {
				m.settle(i + 1)
				return
			}
		}
	})
}

// left is the names, with their bytes, that a crash leaves.
func (m *model) left(count, bytes int) map[string]string {
	n := m.durable
	if count = min(count, len(m.pending)); count > 0 {
		n = m.pending[count-1].names
	}
	left := map[string]string{}
	for name, c := range n {
		left[name] = c.data[:min(len(c.data), c.durable+max(bytes, 0))]
	}
	return left
}

func (m *model) crash(count, bytes int) {
	n := names{}
	for name, data := range m.left(count, bytes) {
		n[name] = &content{data, len(data)}
	}
	m.now, m.durable, m.pending = n, n, nil
	m.armed, m.down = 0, false
}

func toldMap(m map[string]string) string {
	var parts []string
	for _, name := range slices.Sorted(maps.Keys(m)) {
		parts = append(parts, name+"="+m[name])
	}
	return strings.Join(parts, " ")
}

// differs tells where a file system is another one than the model, or nothing.
func (m *model) differs(f *fs.FS) string {
	now := map[string]string{}
	for name, c := range m.now {
		now[name] = c.data
	}
	for _, c := range []struct{ what, got, want string }{
		{"Files", told(f.Files()), toldMap(now)},
		{"Durable", told(f.Durable()), toldMap(m.left(0, 0))},
		{"List", fmt.Sprint(f.List("")), fmt.Sprint(slices.Sorted(maps.Keys(now)))},
		{"Size, Quota, Steps", fmt.Sprint(f.Size(), f.Quota(), f.Steps()), fmt.Sprint(m.size(), m.quota, m.steps)},
		{"Down, armed", fmt.Sprint(f.Down(), arms(f)), fmt.Sprint(m.down, m.armed)},
	} {
		if c.got != c.want {
			return fmt.Sprintf("%s: %s, not %s", c.what, c.got, c.want)
		}
	}
	for count := -1; count <= len(m.pending)+1; count++ {
		for _, bytes := range []int{-1, 0, 1, 3, 99} {
			if got, want := crashed(f, count, bytes), toldMap(m.left(count, bytes)); got != want {
				return fmt.Sprintf("Crash(%d, %d): %s, not %s", count, bytes, got, want)
			}
		}
	}
	return ""
}

// play does one call, chosen by r, to both, and tells it.
func (m *model) play(f *fs.FS, r *rand.Rand) (string, api.Errno, api.Errno) {
	words := []string{"a", "b", "d/a", "d/b", "d/e/c", "a/b", "a", "d/a", "", "a/", "../a"}
	dirs := []string{"", "d", "a", "d/e", "d/", "z"}
	one, two := words[r.Intn(len(words))], words[r.Intn(len(words))]
	dir, data := dirs[r.Intn(len(dirs))], "123456"[:r.Intn(7)]
	switch k := r.Intn(40); {
	case k < 12:
		return "Write " + one + " " + data, f.Write(one, []byte(data)), m.write(one, data)
	case k < 18:
		return "Append " + one + " " + data, f.Append(one, []byte(data)), m.append(one, data)
	case k < 24:
		return "Sync " + one, f.Sync(one), m.sync(one)
	case k < 29:
		return "Rename " + one + " " + two, f.Rename(one, two), m.rename(one, two)
	case k < 32:
		return "Remove " + one, f.Remove(one), m.remove(one)
	case k < 37:
		return "SyncDir " + dir, f.SyncDir(dir), m.syncDir(dir)
	case k < 38:
		n := r.Intn(12) - 1
		f.Arm(n)
		if m.armed = max(n, 0); m.down {
			m.armed = 0
		}
		return fmt.Sprint("Arm ", n), 0, 0
	default:
		count, bytes := r.Intn(7)-1, r.Intn(5)-1
		f.Crash(count, bytes)
		m.crash(count, bytes)
		return fmt.Sprint("Crash ", count, " ", bytes), 0, 0
	}
}

// Chains of calls of every kind answer as the model says; now and then the
// file system goes on as a copy, while the one that was copied is spoilt.
func TestModel(t *testing.T) {
	for seed := range int64(300) {
		r := rand.New(rand.NewSource(seed))
		quota := r.Intn(25)
		f, m := fs.New(quota), &model{quota: quota, now: names{}, durable: names{}}
		var played []string
		for range 60 {
			if r.Intn(8) == 0 {
				old := f
				f = old.Copy()
				for range 5 {
					other := &model{now: names{}, durable: names{}}
					other.play(old, r)
				}
			}
			text, got, want := m.play(f, r)
			played = append(played, text)
			fault := m.differs(f)
			if got != want {
				fault = fmt.Sprintf("error %d, not %d; %s", got, want, fault)
			}
			if fault != "" {
				t.Fatalf("seed %d, quota %d: %s\n%s", seed, quota, strings.Join(played, "; "), fault)
			}
		}
	}
}
