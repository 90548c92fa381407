// Package mark is layer 1: ear marks, what may be read of them when they are worn, and mark books in which no reading can be of two owners.
package mark

import "pinfold/api"

// CheckMark reports whether a mark is valid.
func CheckMark(m api.Mark) api.Errno {
	for _, sign := range m {
		if sign < 0 || sign >= api.Signs {
			return api.ErrMark
		}
	}
	return api.OK
}

// CheckWear reports whether wear is valid.
func CheckWear(w api.Wear) api.Errno {
	for sign, set := range w {
		if s := signs(set); !s.valid() || !s.has(sign) {
			return api.ErrWear
		}
	}
	return api.OK
}

// CheckReading reports whether a reading is valid.
func CheckReading(r api.Reading) api.Errno {
	for _, set := range r {
		if set == 0 || !signs(set).valid() {
			return api.ErrSight
		}
	}
	return api.OK
}

// Check reports whether a mark book is valid.
func Check(b api.Marks) api.Errno {
	if CheckWear(b.Wear) != api.OK || !validPlaces(b.False) || len(b.Given) > api.MaxMarks {
		return api.ErrMarks
	}
	last := 0
	for i, g := range b.Given {
		if g.Owner <= last || !validOwner(g.Owner) || CheckMark(g.Mark) != api.OK {
			return api.ErrMarks
		}
		if near(b.Wear, b.False, b.Given[:i], g.Mark) {
			return api.ErrMarks
		}
		last = g.Owner
	}
	return api.OK
}

// validPlaces reports whether so many places may be false.
func validPlaces(n int) bool { return 0 <= n && n <= api.MaxFalse }

// validOwner reports whether a number may be an owner's.
func validOwner(owner int) bool { return 1 <= owner && owner <= api.MaxOwner }

// firstError returns the first code that is not OK, or OK.
func firstError(codes ...api.Errno) api.Errno {
	for _, e := range codes {
		if e != api.OK {
			return e
		}
	}
	return api.OK
}
