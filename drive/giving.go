package drive

import (
	"cmp"
	"slices"

	"pinfold/api"
)

// share is what an owner has of a sort.
type share struct{ owner, sort int }

// mostOf returns the most of an owner and a sort.
func mostOf(d api.Drive, of share) int {
	i, there := slices.BinarySearchFunc(d.Stocks, of, func(s api.Stock, of share) int {
		return cmp.Or(cmp.Compare(s.Owner, of.owner), cmp.Compare(s.Sort, of.sort))
	})
	if !there {
		return 0
	}
	return d.Stocks[i].Most
}

// ofSort yields the beasts of a sort, with their indices.
func ofSort(beasts []api.Counted, sort int) func(yield func(i int, x api.Counted) bool) {
	return func(yield func(i int, x api.Counted) bool) {
		for i, x := range beasts {
			if x.Sort == sort && !yield(i, x) {
				return
			}
		}
	}
}

// giving is owners that are given to some of the beasts of a drive.
type giving struct {
	drive  api.Drive
	owners []int // by the indices of the beasts; 0: none is given
	shut   share // gets no beasts
}

func newGiving(d api.Drive) *giving {
	return &giving{drive: d, owners: make([]int, len(d.Beasts))}
}

// had yields the indices of the beasts that an owner has of a sort.
func (g *giving) had(of share) func(yield func(i int) bool) {
	return func(yield func(i int) bool) {
		for i := range ofSort(g.drive.Beasts, of.sort) {
			if g.owners[i] == of.owner && !yield(i) {
				return
			}
		}
	}
}

// count is how many beasts an owner has of a sort.
func (g *giving) count(of share) int {
	n := 0
	for range g.had(of) {
		n++
	}
	return n
}

// hasRoom reports whether an owner may get one more beast of a sort.
func (g *giving) hasRoom(of share) bool {
	return of != g.shut && g.count(of) < mostOf(g.drive, of)
}

// place gives a beast an owner, for which other beasts may step aside to other owners, and reports whether there is a way. It asks nobody who was asked already, since no way leads on from there. No owner loses a beast without getting another one.
func (g *giving) place(i int, asked map[share]bool) bool {
	var search func(i int) bool
	search = func(i int) bool {
		x, found := g.drive.Beasts[i], 0
	asking:
		for _, owner := range x.Owners {
			of := share{owner, x.Sort}
			if asked[of] {
				continue
			}
			asked[of] = true
			if g.hasRoom(of) {
				found = owner
				break asking
			}
			for j := range g.had(of) {
				if search(j) {
					found = owner
					break asking
				}
			}
		}
		if found == 0 {
			return false
		}
		g.owners[i] = found
		return true
	}
	return search(i)
}

// fill gives owners to as many beasts of a sort as can have one, and returns the indices of the others.
func (g *giving) fill(sort int) []int {
	var left []int
	for i := range ofSort(g.drive.Beasts, sort) {
		if g.owners[i] == 0 && !g.place(i, map[share]bool{}) {
			left = append(left, i)
		}
	}
	return left
}

// fillAll is fill of all sorts.
func (g *giving) fillAll() []int {
	var left []int
	for sort := 1; sort <= api.MaxSort; sort++ {
		left = append(left, g.fill(sort)...)
	}
	return left
}

// favour gives an owner as many beasts of a sort as the owner may have, as long as none is given.
func (g *giving) favour(of share) {
	for i, x := range ofSort(g.drive.Beasts, of.sort) {
		if slices.Contains(x.Owners, of.owner) && g.hasRoom(of) {
			g.owners[i] = of.owner
		}
	}
}

// avoid gives as many beasts of a sort as can be to others than an owner.
func (g *giving) avoid(of share) {
	g.shut = of
	g.fill(of.sort)
	g.shut = share{}
}

// crowd returns the numbers of beasts that fill left, and of all that would have to step aside for them: all owners of these, but the one who is shut out, have their most.
func (g *giving) crowd(left ...int) []int {
	asked := map[share]bool{}
	for _, i := range left {
		g.place(i, asked)
	}
	var l []int
	for i, x := range g.drive.Beasts {
		if slices.Contains(left, i) || asked[share{g.owners[i], x.Sort}] {
			l = append(l, x.Beast)
		}
	}
	return l
}
