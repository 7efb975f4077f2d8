package feed

// What follows is of sorted lists, in new memory: a sheet may be kept, or be the caller's.

// lastOfEach gives, of things that are alike and so stand together, the last one.
func lastOfEach[T any](list []T, compare func(a, b T) int) []T {
	var last []T
	for i, x := range list {
		if i+1 == len(list) || compare(x, list[i+1]) != 0 {
			last = append(last, x)
		}
	}
	return last
}

// without gives the things of a list of which there is no like in another one.
func without[A, B any](list []A, other []B, compare func(A, B) int) []A {
	var rest []A
	for _, x := range list {
		for len(other) > 0 && compare(x, other[0]) > 0 {
			other = other[1:]
		}
		if len(other) == 0 || compare(x, other[0]) != 0 {
			rest = append(rest, x)
		}
	}
	return rest
}

// merge gives the things of both lists; where they have things that are alike, the upper one's.
func merge[T any](lower, upper []T, compare func(a, b T) int) []T {
	rest := without(lower, upper, compare)
	all := make([]T, 0, len(rest)+len(upper))
	for _, x := range upper {
		for len(rest) > 0 && compare(rest[0], x) < 0 {
			all, rest = append(all, rest[0]), rest[1:]
		}
		all = append(all, x)
	}
	return append(all, rest...)
}

// rising tells whether each stands behind the one ahead of it, and none beside its like.
func rising[T any](list []T, compare func(a, b T) int) bool {
	for i := 1; i < len(list); i++ {
		if compare(list[i-1], list[i]) >= 0 {
			return false
		}
	}
	return true
}
