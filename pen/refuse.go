package pen

import (
	"cmp"
	"slices"

	"pinfold/api"
)

// Refuse says why beasts do not fit.
func Refuse(y api.Yard, l []int) (api.Refusal, api.Errno) {
	x, e := loadOf(y, l)
	if e != api.OK {
		return api.Refusal{}, e
	}
	if x.fits() {
		return api.Refusal{}, api.ErrNone
	}
	// By their Kinds, which begin with 1: what has no placement has a reason of the last one.
	for i, find := range []func() []int{x.findBig, x.findMuch, x.findMany, x.findTight} {
		if beasts := find(); len(beasts) > 0 {
			return api.Refusal{Kind: i + 1, Beasts: beasts}, api.OK
		}
	}
	return api.Refusal{}, api.ErrNone
}

// CheckRefusal reports whether a reason is one.
func CheckRefusal(y api.Yard, l []int, r api.Refusal) api.Errno {
	x, e := loadOf(y, l)
	if e := cmp.Or(e, checkRising(r.Beasts, len(l))); e != api.OK {
		return e
	}
	is := []func(beasts []int) bool{x.isBig, x.isMuch, x.isMany, x.isTight}
	ok := within(r.Kind, 1, len(is)) && is[r.Kind-1](r.Beasts)
	return errorUnless(ok, api.ErrRefusal)
}

// isBig, isMuch, isMany and isTight report whether beasts, that are a rising list of some, are a reason of a Kind.
func (x load) isBig(beasts []int) bool {
	return len(beasts) == 1 && !slices.ContainsFunc(x.pens, func(room int) bool { return x.beasts[beasts[0]].Room <= room })
}

func (x load) isMuch(beasts []int) bool { return isLeast(x.overflow, beasts) }

func (x load) isMany(beasts []int) bool {
	for i, beast := range beasts {
		if !x.apartFromAll(beast, beasts[:i]) {
			return false
		}
	}
	return len(beasts) == len(x.pens)+1
}

func (x load) isTight(beasts []int) bool { return isLeast(x.stuck, beasts) }

// findBig, findMuch, findMany and findTight return the beasts of the reason of a Kind that is told, none if there is no reason of it.
func (x load) findBig() []int {
	for i := range x.beasts {
		if x.isBig([]int{i}) {
			return []int{i}
		}
	}
	return nil
}

func (x load) findMuch() []int { return x.least(x.overflow) }

func (x load) findMany() []int { return x.crowd(nil, 0) }

func (x load) findTight() []int { return x.least(x.stuck) }

// overflow reports whether some of the beasts take more room than all pens have.
func (x load) overflow(beasts []int) bool {
	all := 0
	for _, room := range x.pens {
		all += room
	}
	return x.some(beasts).room() > all
}

// stuck reports whether some of the beasts have no placement.
func (x load) stuck(beasts []int) bool { return !x.some(beasts).fits() }

// isLeast reports whether something is so of beasts, and not without any one of them.
func isLeast(is func(beasts []int) bool, beasts []int) bool {
	for i := range beasts {
		if is(without(beasts, i)) {
			return false
		}
	}
	return is(beasts)
}

// least returns beasts of whom something is so, from which those were left out, from the last one on, without whom it is still so; none if it is not so of all beasts.
func (x load) least(is func(beasts []int) bool) []int {
	var beasts []int
	for i := range x.beasts {
		beasts = append(beasts, i)
	}
	if !is(beasts) {
		return nil
	}
	for n := range x.beasts {
		// Only beasts behind this one were left out: its index in the list is still its number.
		fewer := without(beasts, len(x.beasts)-1-n)
		if is(fewer) {
			beasts = fewer
		}
	}
	return beasts
}

// apartFromAll reports whether a beast must stand apart from each of some others.
func (x load) apartFromAll(beast int, others []int) bool {
	return !slices.ContainsFunc(others, func(other int) bool {
		return !x.apart[x.beasts[beast].Sort].has(x.beasts[other].Sort)
	})
}

// crowd returns the first list that begins with some beasts, goes on with others from an index on, and is a reason TooMany; none if there is no such list.
func (x load) crowd(begin []int, from int) []int {
	if len(begin) > len(x.pens) {
		return begin
	}
	for i := from; i < len(x.beasts); i++ {
		if !x.apartFromAll(i, begin) {
			continue
		}
		if l := x.crowd(slices.Concat(begin, []int{i}), i+1); len(l) > 0 {
			return l
		}
	}
	return nil
}
