package pen

import (
	"cmp"
	"slices"
	"sort"

	"pinfold/api"
)

// isThere reports whether the beast of a stay is there on a day.
func isThere(s api.Stay, day int) bool {
	return s.In <= day && (s.Out < 0 || day < s.Out)
}

// There returns which beasts are there on a day.
func There(y api.Yard, l []api.Stay, day int) ([]int, api.Errno) {
	if e := cmp.Or(CheckStays(y, l), checkDay(day)); e != api.OK {
		return nil, e
	}
	return there(l, day), api.OK
}

// there is There of what is valid.
func there(l []api.Stay, day int) []int {
	var stays []int
	for i, s := range l {
		if isThere(s, day) {
			stays = append(stays, i)
		}
	}
	return stays
}

// Full returns the first day on which the beasts do not fit.
func Full(y api.Yard, l []api.Stay) (int, api.Errno) {
	if e := CheckStays(y, l); e != api.OK {
		return 0, e
	}
	// Where all fit, they fit without those that leave: a yard gets full only on a day on which a beast comes in.
	var days []int
	for _, s := range l {
		days = append(days, s.In)
	}
	slices.Sort(days)
	i := slices.IndexFunc(days, func(day int) bool { return isFull(y, l, day) })
	if i < 0 {
		return 0, api.ErrNone
	}
	return days[i], api.OK
}

// isFull reports whether the beasts that are there on a day are too many, or have no placement.
func isFull(y api.Yard, l []api.Stay, day int) bool {
	var beasts []int
	for _, i := range there(l, day) {
		beasts = append(beasts, l[i].Sort)
	}
	return len(beasts) > api.MaxInside || !newLoad(y, beasts).fits()
}

// Eaten returns how much was eaten up to a day.
func Eaten(y api.Yard, l []api.Stay, day int) (int, api.Errno) {
	if e := cmp.Or(CheckStays(y, l), checkDay(day)); e != api.OK {
		return 0, e
	}
	return eaten(y, l, day), api.OK
}

// eaten is Eaten of what is valid.
func eaten(y api.Yard, l []api.Stay, day int) int {
	n := 0
	for _, s := range l {
		end := day + 1
		if s.Out >= 0 {
			end = min(end, s.Out)
		}
		k, _ := kindOf(y, s.Sort)
		n += k.Eats * max(0, end-s.In)
	}
	return n
}

// Lasts returns the last day for which fodder lasts.
func Lasts(y api.Yard, l []api.Stay, fodder int) (int, api.Errno) {
	if e := cmp.Or(CheckStays(y, l), checkFodder(fodder)); e != api.OK {
		return 0, e
	}
	days := sort.Search(api.MaxDay+1, func(day int) bool { return eaten(y, l, day) > fodder })
	if days == 0 {
		return 0, api.ErrNone
	}
	return days - 1, api.OK
}
