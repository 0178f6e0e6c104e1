package proxy

import (
	"bytes"
	"sync"

	"mews/api"
)

// memory is what came of URLs. Whoever looks for one holds the lock, but not
// while it is requested: who asks for another URL does not wait.
type memory struct {
	lock     sync.Mutex
	outcomes map[string]*outcome
}

// outcome is what came of a URL, once it was requested.
type outcome struct {
	once sync.Once
	data []byte
	e    api.Errno
}

func newMemory() *memory { return &memory{outcomes: map[string]*outcome{}} }

// recall is what came of a URL; the first that asks for it requests it, and
// others that ask meanwhile wait.
func (m *memory) recall(url string, request func(url string) ([]byte, api.Errno)) ([]byte, api.Errno) {
	o := m.outcomeOf(url)
	o.once.Do(func() { o.data, o.e = request(url) })
	return bytes.Clone(o.data), o.e
}

// outcomeOf is a URL's outcome, the same one for all that ask.
func (m *memory) outcomeOf(url string) *outcome {
	m.lock.Lock()
	defer m.lock.Unlock()
	o, there := m.outcomes[url]
	if !there {
		o = &outcome{}
		m.outcomes[url] = o
	}
	return o
}
