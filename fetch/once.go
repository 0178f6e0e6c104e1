package fetch

import (
	"sync"

	"mews/api"
)

// Once does things once a key. Whoever looks for a key holds the lock, but not
// while it is asked: who asks another key does not wait.
type Once[K comparable, V any] struct {
	lock    sync.Mutex
	answers map[K]*answer[V]
	known   int // keys that have an answer, not those that are being asked
}

// answer is what came of a key, once it was asked.
type answer[V any] struct {
	once sync.Once
	v    V
	e    api.Errno
}

// NewOnce makes one that knows nothing.
func NewOnce[K comparable, V any]() *Once[K, V] {
	return &Once[K, V]{answers: map[K]*answer[V]{}}
}

// Do does a thing, the first time.
func (o *Once[K, V]) Do(key K, do func() (V, api.Errno)) (v V, e api.Errno) {
	a := o.answerOf(key)
	a.once.Do(func() {
		a.v, a.e = ask(do)
		o.count()
	})
	return a.v, a.e
}

// Len tells for how many keys an answer is known.
func (o *Once[K, V]) Len() int {
	o.lock.Lock()
	defer o.lock.Unlock()
	return o.known
}

// answerOf is a key's answer, the same one for all that ask. A key of an
// interface type may hold what can't be compared, of which a map panics; no
// other key is like it, so nobody asks it again.
func (o *Once[K, V]) answerOf(key K) (a *answer[V]) {
	o.lock.Lock()
	defer o.lock.Unlock()
	defer func() {
		if recover() != nil {
			a = &answer[V]{}
		}
	}()
	a, there := o.answers[key]
	if !there {
		a = &answer[V]{}
		o.answers[key] = a
	}
	return a
}

func (o *Once[K, V]) count() {
	o.lock.Lock()
	defer o.lock.Unlock()
	o.known++
}
