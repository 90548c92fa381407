package drive

import (
	"slices"

	"pinfold/api"
)

// Count returns how many beasts of an owner and a sort there were.
func Count(d api.Drive, owner, sort int) (api.Range, api.Errno) {
	if e := askSound(d, Check(d), checkOwner(owner), checkSort(sort)); e != api.OK {
		return api.Range{}, e
	}
	return count(d, share{owner, sort}), api.OK
}

// Attain returns owners with which an owner has the most, or the fewest, beasts of a sort.
func Attain(d api.Drive, owner, sort int, high bool) ([]int, api.Errno) {
	if e := askSound(d, Check(d), checkOwner(owner), checkSort(sort)); e != api.OK {
		return nil, e
	}
	g := attain(d, share{owner, sort}, high)
	g.fillAll()
	return g.owners, api.OK
}

// attain gives owners to the beasts of a sort, so that an owner has the most of them, or the fewest.
func attain(d api.Drive, of share, high bool) *giving {
	g := newGiving(d)
	if high {
		g.favour(of)
	} else {
		g.avoid(of)
	}
	// What the owner, or the others, have by now is the most that they can have, and place takes from no owner: only what is left goes to the rest.
	g.fill(of.sort)
	return g
}

// count is Count of a sound drive.
func count(d api.Drive, of share) api.Range {
	return api.Range{Lo: attain(d, of, false).count(of), Hi: attain(d, of, true).count(of)}
}

// Whose answers whether a beast is an owner's.
func Whose(d api.Drive, beast, owner int) (int, api.Errno) {
	e := askSound(d, Check(d), checkBeast(beast), checkOwner(owner), checkHas(d, beast))
	if e != api.OK {
		return 0, e
	}
	i := find(d.Beasts, beast)
	if !sound(narrow(d, i, func(other int) bool { return other == owner })) {
		return api.No, api.OK
	}
	if !sound(narrow(d, i, func(other int) bool { return other != owner })) {
		return api.Yes, api.OK
	}
	return api.Maybe, api.OK
}

// Parts returns how many parts the beasts of an owner take.
func Parts(d api.Drive, owner int, r api.Rates) (api.Range, api.Errno) {
	if e := askSound(d, Check(d), checkOwner(owner), CheckRates(r)); e != api.OK {
		return api.Range{}, e
	}
	return parts(d, owner, r), api.OK
}

// parts is Parts of a sound drive.
func parts(d api.Drive, owner int, r api.Rates) api.Range {
	// No sort bears on another one: one list attains the ends of all of them.
	var least, greatest []int
	for sort, rate := range r {
		n := count(d, share{owner, sort})
		least = append(least, rate*n.Lo)
		greatest = append(greatest, rate*n.Hi)
	}
	return api.Range{Lo: sum(least...), Hi: sum(greatest...)}
}

// Over answers whether an owner had more beasts than a right allows.
func Over(d api.Drive, owner int, r api.Rates, right int) (int, api.Errno) {
	e := askSound(d, Check(d), checkOwner(owner), CheckRates(r), checkRight(right))
	if e != api.OK {
		return 0, e
	}
	switch n := parts(d, owner, r); {
	case n.Lo > right:
		return api.Yes, api.OK
	case n.Hi <= right:
		return api.No, api.OK
	}
	return api.Maybe, api.OK
}

// Moved returns the owners of whom there were other numbers by another drive.
func Moved(d, e api.Drive) ([]int, api.Errno) {
	if err := askSound(d, Check(d), Check(e)); err != api.OK {
		return nil, err
	}
	if err := askSound(e); err != api.OK {
		return nil, err
	}
	var l []int
	for _, owner := range ownersOf(slices.Concat(d.Beasts, e.Beasts)) {
		if counts(d, owner) != counts(e, owner) {
			l = append(l, owner)
		}
	}
	return l, api.OK
}

// counts returns what is counted of an owner, by sorts.
func counts(d api.Drive, owner int) [api.MaxSort + 1]api.Range {
	var l [api.MaxSort + 1]api.Range
	for sort := range l {
		l[sort] = count(d, share{owner, sort})
	}
	return l
}
