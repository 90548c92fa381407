package fine

import (
	"pinfold/api"
)

// CheckTariff reports whether a tariff is valid.
func CheckTariff(t api.Tariff) api.Errno {
	shares := t.Hayward >= 0 && t.Driver >= 0 && t.Hayward <= parts && t.Driver <= parts-t.Hayward
	ok := validDay(t.From) && validRates(t.Head) && validRates(t.Daily) && within(t.Feed, 0, api.MaxPence) && shares
	return errorUnless(ok, api.ErrTariff)
}

func validRates(r api.Rates) bool {
	for _, pence := range r {
		if !within(pence, 0, api.MaxPence) {
			return false
		}
	}
	return r[0] == 0
}

// CheckHeld reports whether a stay is valid.
func CheckHeld(s api.Held) api.Errno {
	beast := within(s.Beast, 1, api.MaxBeast) && within(s.Sort, 1, api.MaxSort)
	costs := within(s.Eats, 0, api.MaxFodder) && within(s.Worth, 0, api.MaxValue) && within(s.Driver, 0, api.MaxOwner)
	ok := validSource(s.Source) && beast && costs && validDay(s.Day) && validTime(s.Known, s.Until)
	return errorUnless(ok, api.ErrHeld)
}

// CheckNote reports whether a note is valid.
func CheckNote(n api.Note) api.Errno {
	ok := validSource(n.Source) && validSource(n.Stay) && validSaying(n) && validDay(n.Day) && validTime(n.Known, n.Until)
	return errorUnless(ok, api.ErrNote)
}

// validSaying reports whether a note names an owner just if it is of a kind that does.
func validSaying(n api.Note) bool {
	switch n.Kind {
	case api.Claimed, api.Judged:
		return validOwner(n.Owner)
	case api.Freed:
		return n.Owner == 0
	}
	return false
}

// Check reports whether an account is valid.
func Check(p api.Account) api.Errno {
	ok := validList(p.Tariffs, api.MaxTariffs, CheckTariff, func(t api.Tariff) int { return t.From }) &&
		validList(p.Stays, api.MaxHeld, CheckHeld, sourceOfStay) &&
		validList(p.Notes, api.MaxNotes, CheckNote, sourceOfNote)
	return errorUnless(ok, api.ErrAccount)
}

func sourceOfStay(s api.Held) int { return s.Source }

func sourceOfNote(n api.Note) int { return n.Source }

// validList reports whether a list has at most so many elements, all of them valid, with rising keys.
func validList[T any](l []T, most int, check func(T) api.Errno, key func(T) int) bool {
	if len(l) > most {
		return false
	}
	for i, x := range l {
		if check(x) != api.OK || i > 0 && key(l[i-1]) >= key(x) {
			return false
		}
	}
	return true
}

// checkDay, checkDays, checkOwner, checkParty and checkWay check the arguments beside an account.
func checkDay(day int) api.Errno { return errorUnless(validDay(day), api.ErrDay) }

func checkDays(days []int) api.Errno {
	same := func(day int) int { return day }
	return errorUnless(validList(days, api.MaxDays, checkDay, same), api.ErrDays)
}

func checkOwner(owner int) api.Errno { return errorUnless(validOwner(owner), api.ErrArg) }

func checkParty(party int) api.Errno {
	return errorUnless(within(party, api.Lord, partyOf(api.MaxOwner)), api.ErrPurse)
}

func checkWay(way int) api.Errno {
	return errorUnless(within(way, api.Standing, api.Left), api.ErrArg)
}

func validSource(source int) bool { return within(source, 1, api.MaxSource) }

func validOwner(owner int) bool { return within(owner, 1, api.MaxOwner) }

func validDay(day int) bool { return within(day, 0, api.MaxDay) }

// validTime reports whether something may be known from a day on, up to the day ahead of another one.
func validTime(known, until int) bool {
	return validDay(known) && (until == 0 || within(until, known+1, api.MaxDay))
}

func within(n, lo, hi int) bool { return lo <= n && n <= hi }

func errorUnless(ok bool, e api.Errno) api.Errno {
	if ok {
		return api.OK
	}
	return e
}
