package stint

import (
	"cmp"

	"pinfold/api"
)

// Takes returns how many parts a herd takes on a pasture.
func Takes(c api.Common, pasture int, h api.Herd, day int) (int, api.Errno) {
	if e := cmp.Or(Check(c), checkHas(c, pasture), checkHerd(h), checkDays(day)); e != api.OK {
		return 0, e
	}
	b, e := inForce(c.Byelaws, pasture, day)
	return takes(b, h), e
}

// takes is how many parts a herd takes by a byelaw.
func takes(b api.Byelaw, h api.Herd) int {
	n := 0
	for sort, head := range h {
		n += head * b.Parts[sort]
	}
	return n
}

// Most returns how many beasts of a sort an owner may turn out on a pasture.
func Most(c api.Common, owner, pasture, sort int, w api.When) (int, api.Errno) {
	e := cmp.Or(Check(c), checkOwner(owner), checkSort(sort), checkHas(c, pasture), checkDays(w.Day, w.Known))
	if e != api.OK {
		return 0, e
	}
	return stateOn(c, w).most(c.Byelaws, owner, pasture, sort)
}

// most is Most by these byelaws.
func (s *state) most(byelaws []api.Byelaw, owner, pasture, sort int) (int, api.Errno) {
	b, e := inForce(byelaws, pasture, s.day)
	if e != api.OK || b.Parts[sort] == 0 {
		return 0, e
	}
	return min(s.usable(owner, pasture)/b.Parts[sort], api.MaxHead), api.OK
}

// Over returns how many parts a herd takes above what its owner may use.
func Over(c api.Common, owner, pasture int, h api.Herd, w api.When) (int, api.Errno) {
	e := cmp.Or(Check(c), checkOwner(owner), checkHas(c, pasture), checkHerd(h), checkDays(w.Day, w.Known))
	if e != api.OK {
		return 0, e
	}
	b, e := inForce(c.Byelaws, pasture, w.Day)
	if e != api.OK {
		return 0, e
	}
	if n := shutOut(b, h); n > 0 {
		return -n, api.OK
	}
	return max(takes(b, h)-stateOn(c, w).usable(owner, pasture), 0), api.OK
}

// shutOut is how many beasts of a herd may not be there.
func shutOut(b api.Byelaw, h api.Herd) int {
	n := 0
	for sort, head := range h {
		if b.Parts[sort] == 0 {
			n += head
		}
	}
	return n
}
