package bulk

import (
	"sync"

	"tocsin/cond"
)

// A memo keeps the answers of conditions, by their names; several goroutines may ask it.
type memo struct {
	lock    sync.Mutex
	answers map[string]*answer
}

// An answer is sought once, by who comes first; the others wait for it.
type answer struct {
	once  sync.Once
	holds bool
}

func newMemo() *memo { return &memo{answers: map[string]*answer{}} }

// holds asks a condition, if none of its name was asked.
func (m *memo) holds(c condition, f cond.Facts) bool {
	a := m.of(c.name)
	a.once.Do(func() { a.holds = c.Holds(f) }) // not under the lock: others may ask for others
	return a.holds
}

func (m *memo) of(name string) *answer {
	m.lock.Lock()
	defer m.lock.Unlock()
	a := m.answers[name]
	if a == nil {
		a = &answer{}
		m.answers[name] = a
	}
	return a
}

// asked tells how many conditions were.
func (m *memo) asked() int {
	m.lock.Lock()
	defer m.lock.Unlock()
	return len(m.answers)
}
