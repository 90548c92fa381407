package mark

import "pinfold/api"

// signs is a set of signs: it has the sign s if its binary digit of the value 2^s is 1.
type signs int

// only has one sign.
func only(sign int) signs { return 1 << sign }

// valid reports whether a number is a set of signs.
func (s signs) valid() bool { return 0 <= s && s <= api.AnySign }

// has reports whether a valid sign is in the set.
func (s signs) has(sign int) bool { return s&only(sign) != 0 }

// meets reports whether both sets have a sign in common.
func (s signs) meets(o signs) bool { return s&o != 0 }

// misses reports whether the sets have no sign in common.
func (s signs) misses(o signs) bool { return s&o == 0 }

// list returns the signs of the set, rising.
func (s signs) list() []int {
	var l []int
	for sign := range api.Signs {
		if s.has(sign) {
			l = append(l, sign)
		}
	}
	return l
}

// row has a set of signs at each place.
type row [api.Places]signs

// wornRow has the worn signs of a valid mark.
func wornRow(w api.Wear, m api.Mark) row {
	var r row
	for i, sign := range m {
		r[i] = signs(w[sign])
	}
	return r
}

// seenRow has the sets of a reading.
func seenRow(r api.Reading) row {
	var s row
	for i, set := range r {
		s[i] = signs(set)
	}
	return s
}

// countPlaces counts the places at which the sets of both rows stand in a relation.
func countPlaces(a, b row, related func(a, b signs) bool) int {
	n := 0
	for i := range a {
		if related(a[i], b[i]) {
			n++
		}
	}
	return n
}

// falsePlaces is the cost of two rows of which one was read, and the distance of two that are worn.
func falsePlaces(a, b row) int { return countPlaces(a, b, signs.misses) }

// apart reports whether two valid marks are apart for so many false places.
func apart(w api.Wear, places int, a, b api.Mark) bool {
	// Equal marks have all their worn signs in common: there is nothing to count.
	return a != b && falsePlaces(wornRow(w, a), wornRow(w, b)) > 2*places
}

// near reports whether a mark is not apart from one of those that are given.
func near(w api.Wear, places int, given []api.Given, m api.Mark) bool {
	for _, g := range given {
		if !apart(w, places, g.Mark, m) {
			return true
		}
	}
	return false
}
