package stint

import (
	"slices"

	"pinfold/api"
)

// last returns the last element of a list of which something is so, and whether there is one.
func last[T any](l []T, is func(x T) bool) (T, bool) {
	for _, x := range slices.Backward(l) {
		if is(x) {
			return x, true
		}
	}
	var none T
	return none, false
}

// validList reports whether a list has at most so many elements, which are valid, and strictly increasing.
func validList[T any](l []T, most int, check func(x T) api.Errno, compare func(a, b T) int) bool {
	if len(l) > most {
		return false
	}
	for i, x := range l {
		if check(x) != api.OK || i > 0 && compare(l[i-1], x) >= 0 {
			return false
		}
	}
	return true
}

func within(n, lo, hi int) bool { return lo <= n && n <= hi }

// clone is an equal common that shares no memory (R4).
func clone(c api.Common) api.Common {
	return api.Common{
		Pastures: slices.Clone(c.Pastures),
		Byelaws:  slices.Clone(c.Byelaws),
		Deeds:    slices.Clone(c.Deeds),
	}
}
