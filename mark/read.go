package mark

import (
	"slices"

	"pinfold/api"
)

// Cost is at how many places a reading of a mark is false.
func Cost(w api.Wear, m api.Mark, r api.Reading) (int, api.Errno) {
	if e := firstError(CheckWear(w), CheckMark(m), CheckReading(r)); e != api.OK {
		return 0, e
	}
	return falsePlaces(wornRow(w, m), seenRow(r)), api.OK
}

// Distance is at how many places two marks have no sign in common.
func Distance(w api.Wear, a, b api.Mark) (int, api.Errno) {
	if e := firstError(CheckWear(w), CheckMark(a), CheckMark(b)); e != api.OK {
		return 0, e
	}
	return falsePlaces(wornRow(w, a), wornRow(w, b)), api.OK
}

// Meet returns a reading that is possible for two marks, with so many false places.
func Meet(w api.Wear, places int, a, b api.Mark) (api.Reading, api.Errno) {
	if e := firstError(CheckWear(w), CheckMark(a), CheckMark(b)); e != api.OK {
		return api.Reading{}, e
	}
	if !validPlaces(places) {
		return api.Reading{}, api.ErrArg
	}
	if apart(w, places, a, b) {
		return api.Reading{}, api.ErrApart
	}
	return between(wornRow(w, a), wornRow(w, b), places), api.OK
}

// between reads two worn marks as one: where they have no sign in common, the first so many places are the first mark's, and false for the second one; the others are the other way round.
func between(a, b row, places int) api.Reading {
	var r api.Reading
	for i := range r {
		s := a[i] & b[i]
		if a[i].misses(b[i]) {
			s = b[i]
			if places > 0 {
				s = a[i]
				places--
			}
		}
		r[i] = int(only(s.list()[0]))
	}
	return r
}

// Possible reports whether a mark is possible for a reading.
func Possible(b api.Marks, m api.Mark, r api.Reading) (bool, api.Errno) {
	if e := firstError(Check(b), CheckMark(m), CheckReading(r)); e != api.OK {
		return false, e
	}
	return possible(b, m, r), api.OK
}

// possible is Possible of what is valid.
func possible(b api.Marks, m api.Mark, r api.Reading) bool {
	return falsePlaces(wornRow(b.Wear, m), seenRow(r)) <= b.False
}

// possibleMarks returns the marks of a book that are possible for all of several readings, with their owners.
func possibleMarks(b api.Marks, readings ...api.Reading) []api.Given {
	var l []api.Given
given:
	for _, g := range b.Given {
		for _, r := range readings {
			if !possible(b, g.Mark, r) {
				continue given
			}
		}
		l = append(l, g)
	}
	return l
}

// ownersOf returns the owners of marks, in their order.
func ownersOf(given []api.Given) []int {
	var l []int
	for _, g := range given {
		l = append(l, g.Owner)
	}
	return l
}

// Owners returns the owners whose marks are possible for a reading.
func Owners(b api.Marks, r api.Reading) ([]int, api.Errno) {
	if e := firstError(Check(b), CheckReading(r)); e != api.OK {
		return nil, e
	}
	return ownersOf(possibleMarks(b, r)), api.OK
}

// Owner returns the one owner whose mark is possible for a reading.
func Owner(b api.Marks, r api.Reading) (int, api.Errno) {
	l, e := Owners(b, r)
	switch {
	case e != api.OK:
		return 0, e
	case len(l) == 0:
		return 0, api.ErrNone
	case len(l) > 1:
		return 0, api.ErrDoubt
	}
	return l[0], api.OK
}

// Of returns the owners whose marks are possible for all of several readings.
func Of(b api.Marks, l []api.Reading) ([]int, api.Errno) {
	if e := Check(b); e != api.OK {
		return nil, e
	}
	if len(l) > api.MaxSeen {
		return nil, api.ErrLong
	}
	for _, r := range l {
		if e := CheckReading(r); e != api.OK {
			return nil, e
		}
	}
	return ownersOf(possibleMarks(b, l...)), api.OK
}

// MarkOf returns an owner's mark.
func MarkOf(b api.Marks, owner int) (api.Mark, api.Errno) {
	i, e := find(b, owner)
	if e != api.OK {
		return api.Mark{}, e
	}
	return b.Given[i].Mark, api.OK
}

// find returns the index of an owner's mark in a book.
func find(b api.Marks, owner int) (int, api.Errno) {
	if e := Check(b); e != api.OK {
		return 0, e
	}
	if !validOwner(owner) {
		return 0, api.ErrOwner
	}
	i := slices.Index(ownersOf(b.Given), owner)
	if i < 0 {
		return 0, api.ErrNone
	}
	return i, api.OK
}
