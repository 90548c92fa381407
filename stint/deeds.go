package stint

import (
	"cmp"
	"maps"
	"slices"

	"pinfold/api"
)

// Add returns a common with one more deed.
func Add(c api.Common, x api.Deed) (api.Common, api.Errno) { return Join(c, []api.Deed{x}) }

// Join returns a common with the deeds of both.
func Join(c api.Common, l []api.Deed) (api.Common, api.Errno) {
	if e := Check(c); e != api.OK {
		return api.Common{}, e
	}
	deeds := map[api.Item]api.Deed{}
	for _, x := range slices.Concat(c.Deeds, l) {
		if e := CheckDeed(x); e != api.OK {
			return api.Common{}, e
		}
		if y, ok := deeds[x.At]; ok && x != y {
			return api.Common{}, api.ErrTwo
		}
		deeds[x.At] = x
	}
	if len(deeds) > api.MaxDeeds {
		return api.Common{}, api.ErrLong
	}
	c = clone(c)
	c.Deeds = slices.SortedFunc(maps.Values(deeds), compareDeeds)
	return c, api.OK
}

// Standing returns the indices of the deeds that stand, as known on a day.
func Standing(c api.Common, known int) ([]int, api.Errno) {
	if e := cmp.Or(Check(c), checkDays(known)); e != api.OK {
		return nil, e
	}
	return standing(c.Deeds, known), api.OK
}

// standing is Standing of what is valid.
func standing(deeds []api.Deed, known int) []int {
	var l []int
	withdrawn := map[api.Item]bool{}
	// A withdrawal is behind the deed that it names, so that it is decided first.
	for i, x := range slices.Backward(deeds) {
		if x.Known > known || withdrawn[x.At] {
			continue
		}
		if x.Kind == api.DeWithdraw {
			withdrawn[x.Of] = true
		}
		l = append(l, i)
	}
	slices.Reverse(l)
	return l
}

// inOrder yields the deeds that stand, and were done by a day, in the order in which they are applied.
func inOrder(c api.Common, w api.When) func(yield func(x api.Deed) bool) {
	return func(yield func(x api.Deed) bool) {
		var l []api.Deed
		for _, i := range standing(c.Deeds, w.Known) {
			if x := c.Deeds[i]; x.Kind != api.DeWithdraw && x.Day <= w.Day {
				l = append(l, x)
			}
		}
		// The deeds of one day stay in the order of their items.
		slices.SortStableFunc(l, func(a, b api.Deed) int { return cmp.Compare(a.Day, b.Day) })
		for _, x := range l {
			if !yield(x) {
				return
			}
		}
	}
}

// Void returns the items of the deeds that could not be so.
func Void(c api.Common, known int) ([]api.Item, api.Errno) {
	if e := cmp.Or(Check(c), checkDays(known)); e != api.OK {
		return nil, e
	}
	void := stateOn(c, api.When{Day: api.MaxDay, Known: known}).void
	slices.SortFunc(void, compareItems)
	return void, api.OK
}
