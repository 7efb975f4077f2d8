package feed

import (
	"cmp"
	"slices"

	"tocsin/api"
)

// A sheet is counts by rising rooms. It is never changed once it is made.
type sheet []api.Count

// byRoom is the order of a sheet.
func byRoom(a, b api.Count) int { return cmp.Compare(a.Room, b.Room) }

// byName is the same order, against the names of rooms.
func byName(a api.Count, name string) int { return cmp.Compare(a.Room, name) }

// byAll orders a sheet likewise, whose rooms differ; of two sheets only counts that are the same are alike in it.
func byAll(a, b api.Count) int {
	return cmp.Or(byRoom(a, b), cmp.Compare(a.Unread, b.Unread), cmp.Compare(a.Highlight, b.Highlight))
}

// sheetOf is the sheet that a list makes. The sort is stable, so that of a room the last one stays last.
func sheetOf(list []api.Count) sheet {
	sorted := slices.Clone(list)
	slices.SortStableFunc(sorted, byRoom)
	return lastOfEach(sorted, byRoom)
}

// changed is the counts that are not so in an older sheet.
func (s sheet) changed(then sheet) []api.Count { return without(s, then, byAll) }

// gone is the rooms of an older sheet that are not here.
func (s sheet) gone(then sheet) []string {
	var rooms []string
	for _, c := range without(then, s, byRoom) {
		rooms = append(rooms, c.Room)
	}
	return rooms
}
