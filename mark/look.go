package mark

import "pinfold/api"

// Worn is what may be read of a mark, with nothing false.
func Worn(w api.Wear, m api.Mark, picks []int) (api.Reading, api.Errno) {
	if e := firstError(CheckWear(w), CheckMark(m)); e != api.OK {
		return api.Reading{}, e
	}
	var r api.Reading
	for i, worn := range wornRow(w, m) {
		l := worn.list()
		r[i] = int(only(l[modulo(pickAt(picks, i), len(l))]))
	}
	return r, api.OK
}

// pickAt returns the number that the choice with an index takes (R10).
func pickAt(picks []int, i int) int {
	if len(picks) == 0 {
		return 0
	}
	return picks[i%len(picks)]
}

// modulo is a modulo n, which is never negative (R5).
func modulo(a, n int) int {
	rest := a % n
	if rest < 0 {
		rest += n
	}
	return rest
}

// Look returns the fewest places to look at again.
func Look(b api.Marks, r api.Reading) ([]int, api.Errno) {
	if e := firstError(Check(b), CheckReading(r)); e != api.OK {
		return nil, e
	}
	rows := possibleRows(b, r)
	var places []int
search:
	for n := range api.Places + 1 {
		for l := range listsOf(n) {
			if settle(rows, l) {
				places = l
				break search
			}
		}
	}
	return places, api.OK
}

// listsOf yields the lists of n places, in their order.
func listsOf(n int) func(yield func([]int) bool) {
	return func(yield func([]int) bool) {
		// The place 0 is the highest digit: of lists of one length the first one is the greatest number.
		for set := 1<<api.Places - 1; set >= 0; set-- {
			if l := placesOf(set); len(l) == n && !yield(l) {
				return
			}
		}
	}
}

// placesOf returns the places of a set, in which the last one is the lowest binary digit.
func placesOf(set int) []int {
	var l []int
	for i := range api.Places {
		if set>>(api.Places-1-i)&1 == 1 {
			l = append(l, i)
		}
	}
	return l
}

// possibleRows returns the worn signs of the marks that are possible for a reading.
func possibleRows(b api.Marks, r api.Reading) []row {
	var rows []row
	for _, g := range possibleMarks(b, r) {
		rows = append(rows, wornRow(b.Wear, g.Mark))
	}
	return rows
}

// settle reports whether each two of the rows have no sign in common at one of the places.
func settle(rows []row, places []int) bool {
	for i, a := range rows {
		for _, b := range rows[:i] {
			if allMeet(a, b, places) {
				return false
			}
		}
	}
	return true
}

// allMeet reports whether two rows have a sign in common at each of the places.
func allMeet(a, b row, places []int) bool {
	for _, i := range places {
		if !a[i].meets(b[i]) {
			return false
		}
	}
	return true
}

// validLook reports whether a list is one of indices of places, strictly increasing.
func validLook(places []int) bool {
	last := -1
	for _, i := range places {
		if i <= last || i >= api.Places {
			return false
		}
		last = i
	}
	return true
}

// CheckLook reports whether places settle whose mark was read.
func CheckLook(b api.Marks, r api.Reading, places []int) api.Errno {
	if e := firstError(Check(b), CheckReading(r)); e != api.OK {
		return e
	}
	if !validLook(places) || !settle(possibleRows(b, r), places) {
		return api.ErrLook
	}
	return api.OK
}

// Looked returns the owners that are left when places were looked at again.
func Looked(b api.Marks, r, again api.Reading, places []int) ([]int, api.Errno) {
	if e := firstError(Check(b), CheckReading(r), CheckReading(again)); e != api.OK {
		return nil, e
	}
	if !validLook(places) {
		return nil, api.ErrLook
	}
	var left []api.Given
	for _, g := range possibleMarks(b, r) {
		if allMeet(wornRow(b.Wear, g.Mark), seenRow(again), places) {
			left = append(left, g)
		}
	}
	return ownersOf(left), api.OK
}
