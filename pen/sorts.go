package pen

import (
	"slices"

	"pinfold/api"
)

// sorts is a set of sorts: it has the sort s if its binary digit of the value 2^s is 1.
type sorts int

// only has one sort.
func only(sort int) sorts { return 1 << sort }

// valid reports whether a number is a set of valid sorts.
func (s sorts) valid() bool {
	return within(int(s), 0, 1<<(api.MaxSort+1)-1) && !s.has(0)
}

// has reports whether a sort, from 0 to MaxSort, is in the set.
func (s sorts) has(sort int) bool { return s&only(sort) != 0 }

// meets reports whether both sets have a sort in common.
func (s sorts) meets(o sorts) bool { return s&o != 0 }

// each yields the sorts of the set, from the greatest one down.
func (s sorts) each(yield func(sort int) bool) {
	for n := range api.MaxSort {
		if sort := api.MaxSort - n; s.has(sort) && !yield(sort) {
			return
		}
	}
}

// kindOf returns the kind of a sort, and whether the yard has it.
func kindOf(y api.Yard, sort int) (api.Kind, bool) {
	i := slices.IndexFunc(y.Kinds, func(k api.Kind) bool { return k.Sort == sort })
	if i < 0 {
		return api.Kind{}, false
	}
	return y.Kinds[i], true
}

// apartness has, for each sort, those that must stand apart from it.
type apartness [api.MaxSort + 1]sorts

// apartnessOf is that of a valid yard: one of two kinds names the other's sort, but it holds for both.
func apartnessOf(y api.Yard) apartness {
	var a apartness
	for _, k := range y.Kinds {
		for sort := range sorts(k.Apart).each {
			a[k.Sort] |= only(sort)
			a[sort] |= only(k.Sort)
		}
	}
	return a
}

// Apart reports whether two sorts must stand apart.
func Apart(y api.Yard, a, b int) (bool, api.Errno) {
	if e := CheckYard(y); e != api.OK {
		return false, e
	}
	if e := checkKinds(y, a, b); e != api.OK {
		return false, e
	}
	return apartnessOf(y)[a].has(b), api.OK
}
