package stint

import (
	"cmp"
	"slices"

	"pinfold/api"
)

// Changed returns the owners who may use other parts on a day, as known on two days.
func Changed(c api.Common, day, known, later int) ([]int, api.Errno) {
	if e := cmp.Or(Check(c), checkDays(day, known, later)); e != api.OK {
		return nil, e
	}
	before := stateOn(c, api.When{Day: day, Known: known})
	after := stateOn(c, api.When{Day: day, Known: later})
	return ownersWith(c.Pastures, func(owner, pasture int) bool {
		return before.usable(owner, pasture) != after.usable(owner, pasture)
	}), api.OK
}

// ownersWith returns the owners for whom something is so on one of the pastures.
func ownersWith(pastures []api.Pasture, is func(owner, pasture int) bool) []int {
	var l []int
	for owner := 1; owner <= api.MaxOwner; owner++ {
		if _, ok := last(pastures, func(p api.Pasture) bool { return is(owner, p.Id) }); ok {
			l = append(l, owner)
		}
	}
	return l
}

// Rests returns the deeds without each of which an owner could use other parts on a pasture.
func Rests(c api.Common, owner, pasture int, w api.When) ([]api.Item, api.Errno) {
	e := cmp.Or(Check(c), checkOwner(owner), checkHas(c, pasture), checkDays(w.Day, w.Known))
	if e != api.OK {
		return nil, e
	}
	var l []api.Item
	usable := stateOn(c, w).usable(owner, pasture)
	for i, x := range c.Deeds {
		less := clone(c)
		less.Deeds = slices.Delete(less.Deeds, i, i+1)
		if stateOn(less, w).usable(owner, pasture) != usable {
			l = append(l, x.At)
		}
	}
	return l, api.OK
}

// Moved returns the owners to whom a byelaw matters on a day.
func Moved(c api.Common, source, sort int, w api.When) ([]int, api.Errno) {
	if e := cmp.Or(Check(c), checkSort(sort), checkDays(w.Day, w.Known)); e != api.OK {
		return nil, e
	}
	less := clone(c)
	less.Byelaws = slices.DeleteFunc(less.Byelaws, func(b api.Byelaw) bool { return b.Source == source })
	if len(less.Byelaws) == len(c.Byelaws) {
		return nil, api.ErrNone
	}
	s := stateOn(c, w)
	return ownersWith(c.Pastures, func(owner, pasture int) bool {
		n, e := s.most(c.Byelaws, owner, pasture, sort)
		m, f := s.most(less.Byelaws, owner, pasture, sort)
		return n != m || e != f
	}), api.OK
}
