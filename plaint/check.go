package plaint

import (
	"cmp"

	"pinfold/api"
)

// CheckPlaint reports whether a plaint is valid.
func CheckPlaint(p api.Plaint) api.Errno {
	ok := validPlea(p.Id) && within(p.Owner, 1, api.MaxOwner) && validWorth(p.Claim) && validDay(p.Day) && validDay(p.Known) &&
		risingWithin(p.Beasts, api.MaxNamed, api.MaxBeast) && risingWithin(p.Sureties, api.MaxSureties, api.MaxPlea)
	return errorUnless(ok, api.ErrPlaint)
}

// risingWithin reports whether a list has from 1 to so many numbers, rising, each from 1 to a greatest one.
func risingWithin(l []int, most, greatest int) bool {
	valid := func(n int) api.Errno { return errorUnless(within(n, 1, greatest), api.ErrArg) }
	return len(l) > 0 && validList(l, most, valid, func(n int) int { return n })
}

// CheckSurety reports whether a surety is valid.
func CheckSurety(s api.Surety) api.Errno {
	return errorUnless(validPlea(s.Id) && validWorth(s.Worth), api.ErrSurety)
}

// CheckFinding reports whether a finding is valid.
func CheckFinding(f api.Finding) api.Errno {
	amounts := within(f.Amount, 0, api.MaxWorth) && within(f.Pays, 0, f.Amount)
	ok := within(f.Source, 1, api.MaxSource) && validPlea(f.Plaint) && validDay(f.Day) && validDay(f.Known) && amounts
	return errorUnless(ok, api.ErrFinding)
}

// Check reports whether a case is valid.
func Check(c api.Case) api.Errno {
	ok := validList(c.Plaints, api.MaxPlaints, CheckPlaint, idOfPlaint) &&
		validList(c.Sureties, api.MaxSureties, CheckSurety, idOfSurety) &&
		validList(c.Findings, api.MaxFindings, CheckFinding, sourceOf)
	return errorUnless(ok && joined(c), api.ErrCase)
}

// joined reports whether all plaints and findings of a case refer to what it has.
func joined(c api.Case) bool {
	for _, p := range c.Plaints {
		if !hasSureties(c, p) {
			return false
		}
	}
	for _, f := range c.Findings {
		if !isClaimed(c, f) {
			return false
		}
	}
	return true
}

// hasSureties reports whether a case has all sureties of a plaint.
func hasSureties(c api.Case, p api.Plaint) bool {
	for _, id := range p.Sureties {
		if _, there := place(c.Sureties, id, idOfSurety); !there {
			return false
		}
	}
	return true
}

// isClaimed reports whether a case has a plaint that claims as much as was found on it.
func isClaimed(c api.Case, f api.Finding) bool {
	i, there := place(c.Plaints, f.Plaint, idOfPlaint)
	return there && c.Plaints[i].Claim.Hi >= f.Amount
}

func idOfPlaint(p api.Plaint) int { return p.Id }

func idOfSurety(s api.Surety) int { return s.Id }

func sourceOf(f api.Finding) int { return f.Source }

// validList reports whether a list has at most so many elements, all of them valid, with rising keys.
func validList[T any](l []T, most int, check func(T) api.Errno, key func(T) int) bool {
	if len(l) > most {
		return false
	}
	for i, x := range l {
		if check(x) != api.OK || i > 0 && key(l[i-1]) >= key(x) {
			return false
		}
	}
	return true
}

// checkKnown checks the arguments of all functions that tell what is known of a case on a day.
func checkKnown(c api.Case, known int) api.Errno {
	return cmp.Or(Check(c), errorUnless(validDay(known), api.ErrDay))
}

func validPlea(id int) bool { return within(id, 1, api.MaxPlea) }

func validDay(day int) bool { return within(day, 0, api.MaxDay) }

func validWorth(r api.Range) bool { return 0 <= r.Lo && r.Lo <= r.Hi && r.Hi <= api.MaxWorth }

func within(n, lo, hi int) bool { return lo <= n && n <= hi }

func errorUnless(ok bool, e api.Errno) api.Errno {
	if ok {
		return api.OK
	}
	return e
}
