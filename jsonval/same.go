package jsonval

import "slices"

// couple is two values that are held against each other.
type couple struct{ a, b *Value }

// Same tells whether two values are the same (J5).
func Same(a *Value, b *Value) bool { return alike(a, b, map[couple]struct{}{}) }

// alike holds two values against each other. One value may stand in many places of another, so that all ways through it are more than can be gone: those that were found to be the same are not gone through again.
func alike(a *Value, b *Value, found map[couple]struct{}) bool {
	if a == b {
		return true
	}
	if a.Kind() != b.Kind() || a.True() != b.True() || a.Number() != b.Number() || a.Text() != b.Text() || a.Len() != b.Len() {
		return false
	}
	if a.Len() == 0 {
		return true
	}
	if _, had := found[couple{a, b}]; had {
		return true
	}
	if !slices.Equal(a.keys, b.keys) {
		return false
	}
	for i, item := range a.items {
		if !alike(item, b.items[i], found) {
			return false
		}
	}
	found[couple{a, b}] = struct{}{}
	return true
}
