package feed

import (
	"slices"
	"strconv"

	"tocsin/api"
)

// A shelf is what is kept of a user: the number of the present sheet, and the kept sheets, the present one last.
type shelf struct {
	number int64
	sheets []sheet
}

// newShelf has the sheet 0 alone.
func newShelf() *shelf { return &shelf{sheets: []sheet{nil}} }

func (s *shelf) present() sheet { return s.sheets[len(s.sheets)-1] }

// oldest is the number of the first sheet that is kept at this number.
func (s *shelf) oldest() int64 { return max(0, s.number-api.MaxHistory) }

// put takes a sheet as the present one, and tells whether it did.
func (s *shelf) put(now sheet) bool {
	if s.number == api.MaxInt || slices.Equal(now, s.present()) {
		return false
	}
	s.number++
	s.sheets = append(s.sheets, now)
	if len(s.sheets) > api.MaxHistory+1 {
		s.sheets = slices.Delete(s.sheets, 0, 1)
	}
	return true
}

// placeOf is the place of the sheet with a number.
func placeOf(number int64) string { return strconv.FormatInt(number, 10) }

// numberAt is the number that a place stands for. A number has one place only: that which it is written as.
func numberAt(place string) (int64, bool) {
	number, err := strconv.ParseInt(place, 10, 64)
	if err != nil || number < 0 || placeOf(number) != place {
		return 0, false
	}
	return number, true
}

// knows tells whether a place is that of a sheet that the user has or had.
func (s *shelf) knows(place string) bool {
	number, ok := numberAt(place)
	return ok && number <= s.number
}

// find is the sheet of a place, if it is kept.
func (s *shelf) find(place string) (sheet, bool) {
	number, ok := numberAt(place)
	if !ok || number < s.oldest() || number > s.number {
		return nil, false
	}
	return s.sheets[number-s.oldest()], true
}
