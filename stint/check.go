package stint

import (
	"cmp"

	"pinfold/api"
)

// The chapter gives these limits as numbers; package api has no names for them.
const (
	maxPasture = 99      // pastures are 1 to 99
	maxTotal   = 1000000 // parts on a pasture
)

// CheckPasture reports whether a pasture is valid.
func CheckPasture(p api.Pasture) api.Errno {
	ok := validPasture(p.Id) && validDayOfYear(p.Season.Lo) && validDayOfYear(p.Season.Hi)
	return errorUnless(ok, api.ErrPasture)
}

// CheckByelaw reports whether a byelaw is valid.
func CheckByelaw(b api.Byelaw) api.Errno {
	ok := within(b.Source, 1, api.MaxSource) && validPasture(b.Pasture) && validDay(b.From)
	return errorUnless(ok && validSorts(b.Parts, api.MaxParts), api.ErrByelaw)
}

// Check reports whether a common is valid.
func Check(c api.Common) api.Errno {
	ok := validList(c.Pastures, api.MaxPastures, CheckPasture, comparePastures) &&
		validList(c.Byelaws, api.MaxByelaws, CheckByelaw, compareByelaws) &&
		validList(c.Deeds, api.MaxDeeds, CheckDeed, compareDeeds)
	return errorUnless(ok, api.ErrCommon)
}

func comparePastures(a, b api.Pasture) int { return cmp.Compare(a.Id, b.Id) }

func compareByelaws(a, b api.Byelaw) int {
	return cmp.Or(cmp.Compare(a.Pasture, b.Pasture), cmp.Compare(a.From, b.From))
}

func compareDeeds(a, b api.Deed) int { return compareItems(a.At, b.At) }

func compareItems(a, b api.Item) int {
	return cmp.Or(cmp.Compare(a.Manor, b.Manor), cmp.Compare(a.No, b.No))
}

// The fields that a kind of deed names, besides At, Kind and Known.
const (
	hasDay = 1 << iota
	hasHolding
	hasTo
	hasOwner
	hasPasture
	hasParts
	hasUntil
	hasOf
)

// fieldsOf returns the fields that a kind of deed names; 0 if there is no such kind.
func fieldsOf(kind int) int {
	switch kind {
	case api.DeWithdraw:
		return hasOf
	case api.DeHold, api.DeOwner:
		return hasDay | hasHolding | hasOwner
	case api.DeRight:
		return hasDay | hasHolding | hasPasture | hasParts
	case api.DeSplit:
		return hasDay | hasHolding | hasTo | hasPasture | hasParts
	case api.DeJoin:
		return hasDay | hasHolding | hasTo
	case api.DeLet:
		return hasDay | hasHolding | hasTo | hasPasture | hasParts | hasUntil
	case api.DeOpen, api.DeClose:
		return hasDay | hasPasture | hasUntil
	}
	return 0
}

// CheckDeed reports whether a deed is valid.
func CheckDeed(x api.Deed) api.Errno {
	fields := fieldsOf(x.Kind)
	// fits is also false for a field that the kind does not name, unless it is 0.
	fits := func(field, n, lo, hi int) bool {
		if fields&field == 0 {
			return n == 0
		}
		return within(n, lo, hi)
	}
	ok := fields != 0 && validItem(x.At) && validDay(x.Known) && validOf(x, fields&hasOf != 0) &&
		fits(hasDay, x.Day, 0, api.MaxDay) &&
		fits(hasHolding, x.Holding, 1, api.MaxHolding) &&
		fits(hasTo, x.To, 1, api.MaxHolding) && (x.To == 0 || x.To != x.Holding) &&
		fits(hasOwner, x.Owner, 1, api.MaxOwner) &&
		fits(hasPasture, x.Pasture, 1, maxPasture) &&
		fits(hasParts, x.Parts, 1, api.MaxParts) &&
		fits(hasUntil, x.Until, x.Day, api.MaxDay)
	return errorUnless(ok, api.ErrDeed)
}

// validOf reports whether a deed names an earlier item of its manor, or none if its kind does not.
func validOf(x api.Deed, named bool) bool {
	if !named {
		return x.Of == api.Item{}
	}
	return validItem(x.Of) && x.Of.Manor == x.At.Manor && x.Of.No < x.At.No
}

func validItem(x api.Item) bool {
	return within(x.Manor, 0, api.MaxManors-1) && within(x.No, 0, api.MaxNo)
}

func validPasture(pasture int) bool { return within(pasture, 1, maxPasture) }

func validDay(day int) bool { return within(day, 0, api.MaxDay) }

func validDayOfYear(day int) bool { return within(day, 0, api.YearDays-1) }

// validSorts reports whether there is a number from 0 to most for each sort, and 0 for the sort 0, which is none.
func validSorts(l [api.MaxSort + 1]int, most int) bool {
	for _, n := range l {
		if !within(n, 0, most) {
			return false
		}
	}
	return l[0] == 0
}

// checkHolding, checkOwner, checkSort, checkHerd, checkHas and checkDays check the arguments beside a common.
func checkHolding(holding int) api.Errno {
	return errorUnless(within(holding, 1, api.MaxHolding), api.ErrArg)
}

func checkOwner(owner int) api.Errno {
	return errorUnless(within(owner, 1, api.MaxOwner), api.ErrArg)
}

func checkSort(sort int) api.Errno {
	return errorUnless(within(sort, 1, api.MaxSort), api.ErrArg)
}

func checkHerd(h api.Herd) api.Errno {
	return errorUnless(validSorts(h, api.MaxHead), api.ErrHerd)
}

func checkHas(c api.Common, pasture int) api.Errno {
	_, ok := findPasture(c, pasture)
	return errorUnless(ok, api.ErrPasture)
}

func checkDays(days ...int) api.Errno {
	for _, day := range days {
		if !validDay(day) {
			return api.ErrDay
		}
	}
	return api.OK
}

func errorUnless(ok bool, e api.Errno) api.Errno {
	if ok {
		return api.OK
	}
	return e
}
