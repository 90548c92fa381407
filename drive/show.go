package drive

import (
	"cmp"
	"slices"

	"pinfold/api"
)

// Prove returns beasts that show how many an owner has at least of a sort.
func Prove(d api.Drive, owner, sort int) ([]int, api.Errno) {
	if e := askSound(d, Check(d), checkOwner(owner), checkSort(sort)); e != api.OK {
		return nil, e
	}
	g := newGiving(d)
	g.shut = share{owner, sort}
	return g.crowd(g.fill(sort)...), api.OK
}

// CheckProof reports whether beasts show that an owner has so many at least of a sort.
func CheckProof(d api.Drive, owner, sort, n int, beasts []int) api.Errno {
	if e := cmp.Or(Check(d), checkOwner(owner), checkSort(sort)); e != api.OK {
		return e
	}
	l, ok := beastsOf(d, sort, beasts)
	if !ok {
		return api.ErrCrowd
	}
	return errorUnless(beyond(d, sort, l, owner) >= n, api.ErrShown)
}

// Crowd returns beasts that cannot all have been there.
func Crowd(d api.Drive) ([]int, api.Errno) {
	if e := Check(d); e != api.OK {
		return nil, e
	}
	g := newGiving(d)
	left := g.fillAll()
	if len(left) == 0 {
		return nil, api.ErrNone
	}
	// Those that are left of another sort are no part of it: the beasts of a crowd are of one sort.
	return g.crowd(left[0]), api.OK
}

// CheckCrowd reports whether beasts cannot all have been there.
func CheckCrowd(d api.Drive, beasts []int) api.Errno {
	if e := Check(d); e != api.OK {
		return e
	}
	for sort := 1; sort <= api.MaxSort; sort++ {
		if l, ok := beastsOf(d, sort, beasts); ok && beyond(d, sort, l) > 0 {
			return api.OK
		}
	}
	return api.ErrCrowd
}

// beastsOf returns the beasts with these numbers, and whether they are a rising list of beasts of the drive, all of a sort.
func beastsOf(d api.Drive, sort int, numbers []int) ([]api.Counted, bool) {
	var l []api.Counted
	for _, x := range ofSort(d.Beasts, sort) {
		// The beasts of the drive rise: only a rising list of them is found to its end.
		if len(l) < len(numbers) && numbers[len(l)] == x.Beast {
			l = append(l, x)
		}
	}
	return l, len(l) == len(numbers)
}

// beyond is how many beasts of a sort are more than the most of all owners who are possible for them, but for some owners.
func beyond(d api.Drive, sort int, beasts []api.Counted, except ...int) int {
	var l []int
	for _, owner := range ownersOf(beasts) {
		if !slices.Contains(except, owner) {
			l = append(l, mostOf(d, share{owner, sort}))
		}
	}
	return len(beasts) - sum(l...)
}

func sum(l ...int) int {
	n := 0
	for _, x := range l {
		n += x
	}
	return n
}
