package session

import (
	"container/heap"
	"slices"
)

// A shelf keeps things, each till a time; what is over first lies in front, so that no one looks through all of them for it.
type shelf[K comparable] struct {
	rows   []row[K] // as container/heap lays them
	places map[K]int
}

// A row is a thing, and the time at which it is over.
type row[K comparable] struct {
	key   K
	until int64
}

func newShelf[K comparable]() *shelf[K] { return &shelf[K]{places: map[K]int{}} }

// until is the time of a thing; 0, if it is not there.
func (s *shelf[K]) until(key K) int64 {
	if i, ok := s.places[key]; ok {
		return s.rows[i].until
	}
	return 0
}

// put lays a thing there, or gives another time to one that is there.
func (s *shelf[K]) put(key K, until int64) {
	if i, ok := s.places[key]; ok {
		s.rows[i].until = until
		heap.Fix(s, i)
		return
	}
	heap.Push(s, row[K]{key, until})
}

// remove takes a thing out, if it is there.
func (s *shelf[K]) remove(key K) {
	if i, ok := s.places[key]; ok {
		heap.Remove(s, i)
	}
}

// drop takes out all whose time is not above now, and gives them.
func (s *shelf[K]) drop(now int64) []K {
	var over []K
	for len(s.rows) > 0 && s.rows[0].until <= now {
		over = append(over, s.rows[0].key)
		heap.Remove(s, 0)
	}
	return over
}

// sorted are all rows, in an order of the caller's.
func (s *shelf[K]) sorted(compare func(a, b row[K]) int) []row[K] {
	all := slices.Clone(s.rows)
	slices.SortFunc(all, compare)
	return all
}

// Len, Less, Swap, Push and Pop are what container/heap calls.
func (s *shelf[K]) Len() int { return len(s.rows) }

func (s *shelf[K]) Less(i, j int) bool { return s.rows[i].until < s.rows[j].until }

func (s *shelf[K]) Swap(i, j int) {
	s.rows[i], s.rows[j] = s.rows[j], s.rows[i]
	s.places[s.rows[i].key] = i
	s.places[s.rows[j].key] = j
}

func (s *shelf[K]) Push(x any) {
	if r, ok := x.(row[K]); ok {
		s.places[r.key] = len(s.rows)
		s.rows = append(s.rows, r)
	}
}

func (s *shelf[K]) Pop() any {
	last := len(s.rows) - 1
	r := s.rows[last]
	clear(s.rows[last:]) // its text is not held by the room behind the rows
	s.rows = s.rows[:last]
	delete(s.places, r.key)
	return r
}
