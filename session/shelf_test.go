package session

import (
	"cmp"
	"maps"
	"math/rand"
	"slices"
	"testing"
)

// TestShelfByChance: a shelf is held against a map that is looked through.
func TestShelfByChance(t *testing.T) {
	for seed := range int64(200) {
		rnd := rand.New(rand.NewSource(seed))
		s, want := newShelf[int](), map[int]int64{}
		for range 300 {
			key, time := rnd.Intn(40), int64(1+rnd.Intn(60))
			switch rnd.Intn(8) {
			case 0:
				s.remove(key)
				delete(want, key)
			case 1:
				now := int64(rnd.Intn(20))
				over := s.drop(now)
				slices.Sort(over)
				var gone []int
				for _, key := range slices.Sorted(maps.Keys(want)) {
					if want[key] <= now {
						gone = append(gone, key)
						delete(want, key)
					}
				}
				if !slices.Equal(over, gone) {
					t.Fatalf("seed %d: over at %d are %d, want %d", seed, now, over, gone)
				}
			default:
				s.put(key, time)
				want[key] = time
			}
			if s.until(key) != want[key] || len(s.rows) != len(want) || len(s.places) != len(want) {
				t.Fatalf("seed %d: the time of %d is %d, want %d; %d rows, %d places, want %d", seed, key, s.until(key), want[key], len(s.rows), len(s.places), len(want))
			}
		}
		rows := s.sorted(func(a, b row[int]) int { return cmp.Compare(a.key, b.key) })
		for i, key := range slices.Sorted(maps.Keys(want)) {
			if rows[i] != (row[int]{key, want[key]}) {
				t.Fatalf("seed %d: row %d is %v, want %d till %d", seed, i, rows[i], key, want[key])
			}
		}
	}
}

func TestShelfHoldsNothingBehindItsRows(t *testing.T) { // what is over is not kept
	s := newShelf[string]()
	for _, key := range []string{"a", "b", "c", "d"} {
		s.put(key, 5)
	}
	s.remove("b")
	s.drop(5)
	for _, r := range s.rows[:cap(s.rows)] {
		if r != (row[string]{}) {
			t.Errorf("%q till %d is still held", r.key, r.until)
		}
	}
}
