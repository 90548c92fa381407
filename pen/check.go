package pen

import (
	"slices"

	"pinfold/api"
)

// mostFodder is the greatest number that fodder may be.
const mostFodder = 1_000_000_000_000

// CheckYard reports whether a yard is valid.
func CheckYard(y api.Yard) api.Errno {
	if len(y.Pens) > api.MaxPens {
		return api.ErrYard
	}
	for _, room := range y.Pens {
		if !within(room, 0, api.MaxRoom) {
			return api.ErrYard
		}
	}
	for i, k := range y.Kinds {
		if !validKind(k) || i > 0 && y.Kinds[i-1].Sort >= k.Sort {
			return api.ErrYard
		}
	}
	return api.OK
}

func validKind(k api.Kind) bool {
	return within(k.Sort, 1, api.MaxSort) && within(k.Room, 1, api.MaxRoom) && within(k.Eats, 0, api.MaxEats) && sorts(k.Apart).valid()
}

// CheckSorts reports whether beasts, by their sorts, may be in a yard.
func CheckSorts(y api.Yard, l []int) api.Errno {
	if e := CheckYard(y); e != api.OK {
		return e
	}
	if len(l) > api.MaxInside {
		return api.ErrSorts
	}
	return checkKinds(y, l...)
}

// CheckStays reports whether stays may be.
func CheckStays(y api.Yard, l []api.Stay) api.Errno {
	if e := CheckYard(y); e != api.OK {
		return e
	}
	ok := len(l) <= api.MaxStays && !slices.ContainsFunc(l, func(s api.Stay) bool { return !validStay(y, s) })
	return errorUnless(ok, api.ErrStays)
}

func validStay(y api.Yard, s api.Stay) bool {
	ends := s.Out == -1 || within(s.Out, s.In, api.MaxDay)
	return checkKinds(y, s.Sort) == api.OK && validDay(s.In) && ends
}

// checkKinds, checkBeast, checkPen, checkDay and checkFodder check the arguments beside a yard.
func checkKinds(y api.Yard, l ...int) api.Errno {
	for _, sort := range l {
		if _, ok := kindOf(y, sort); !ok {
			return api.ErrSorts
		}
	}
	return api.OK
}

func checkBeast(l []int, i int) api.Errno {
	return errorUnless(within(i, 0, len(l)-1), api.ErrArg)
}

func checkPen(y api.Yard, pen int) api.Errno {
	return errorUnless(within(pen, 0, len(y.Pens)-1), api.ErrPen)
}

func checkDay(day int) api.Errno { return errorUnless(validDay(day), api.ErrDay) }

func checkFodder(fodder int) api.Errno {
	return errorUnless(within(fodder, 0, mostFodder), api.ErrArg)
}

// checkRising reports, by ErrRefusal, whether numbers are indices of so many beasts, rising, and at least one.
func checkRising(numbers []int, beasts int) api.Errno {
	ok := len(numbers) > 0
	for i, n := range numbers {
		ok = ok && within(n, 0, beasts-1) && (i == 0 || numbers[i-1] < n)
	}
	return errorUnless(ok, api.ErrRefusal)
}

func validDay(day int) bool { return within(day, 0, api.MaxDay) }

func within(n, lo, hi int) bool { return lo <= n && n <= hi }

func errorUnless(ok bool, e api.Errno) api.Errno {
	if ok {
		return api.OK
	}
	return e
}
