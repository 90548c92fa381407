package drive_test

import (
	"fmt"
	"math/rand/v2"
	"slices"
	"testing"

	"pinfold/api"
	"pinfold/drive"
)

func counted(beast, sort int, owners ...int) api.Counted {
	return api.Counted{Source: beast, Beast: beast, Sort: sort, Owners: owners}
}

// example is the drive D of the chapter's examples.
func example() api.Drive {
	return api.Drive{
		Beasts: []api.Counted{counted(1, 3, 5, 6), counted(2, 3, 5, 6), counted(3, 3, 6, 7), counted(4, 1, 7)},
		Stocks: []api.Stock{{Owner: 5, Sort: 3, Most: 2}, {Owner: 6, Sort: 3, Most: 1}, {Owner: 7, Sort: 1, Most: 1}, {Owner: 7, Sort: 3, Most: 1}},
	}
}

// fullDrive has as much of all as a drive may have, and is sound.
func fullDrive() api.Drive {
	var d api.Drive
	for i := range api.MaxCounted {
		d.Beasts = append(d.Beasts, api.Counted{Source: api.MaxSource, Beast: api.MaxBeast - api.MaxCounted + 1 + i, Sort: 1 + i%api.MaxSort,
			Owners: []int{1, 2, 3, 44, 45, 97, 98, 99}})
	}
	for i := range api.MaxStocks {
		d.Stocks = append(d.Stocks, api.Stock{Owner: 1 + i/9, Sort: 1 + i%9, Most: api.MaxMost})
	}
	return d
}

func cloneDrive(d api.Drive) api.Drive {
	var c api.Drive
	for _, x := range d.Beasts {
		x.Owners = slices.Clone(x.Owners)
		c.Beasts = append(c.Beasts, x)
	}
	c.Stocks = slices.Clone(d.Stocks)
	return c
}

// The ranges of randomDrive: few of all, so that owners are scarce and all lists can be gone through.
const (
	someOwners = 4
	someSorts  = 2
	someBeasts = 6
)

func newRandom() *rand.Rand { return rand.New(rand.NewPCG(5, 6)) }

// randomOwners has up to three owners, rising.
func randomOwners(x *rand.Rand) []int {
	l := x.Perm(someOwners)[:1+x.IntN(3)]
	slices.Sort(l)
	for i := range l {
		l[i]++
	}
	return l
}

// randomDrive may be sound or not.
func randomDrive(x *rand.Rand) api.Drive {
	var d api.Drive
	for i := range x.IntN(someBeasts + 1) {
		d.Beasts = append(d.Beasts, counted(10+3*i, 1+x.IntN(10)/7, randomOwners(x)...))
	}
	for i := range someOwners * someSorts {
		if x.IntN(5) > 0 {
			d.Stocks = append(d.Stocks, api.Stock{Owner: 1 + i/someSorts, Sort: 1 + i%someSorts, Most: x.IntN(4)})
		}
	}
	return d
}

// soundDrive is a random one with beasts, and all lists by which its owners are given.
func soundDrive(x *rand.Rand) (api.Drive, [][]int) {
	for {
		d := randomDrive(x)
		if l := lists(d); len(l) > 0 && len(d.Beasts) > 0 {
			return d, l
		}
	}
}

// most is what the chapter says of an owner and a sort.
func most(d api.Drive, owner, sort int) int {
	for _, s := range d.Stocks {
		if s.Owner == owner && s.Sort == sort {
			return s.Most
		}
	}
	return 0
}

// has is how many beasts of a sort an owner has by a list.
func has(d api.Drive, given []int, owner, sort int) int {
	n := 0
	for i, x := range d.Beasts {
		if given[i] == owner && x.Sort == sort {
			n++
		}
	}
	return n
}

// isGiven reports whether owners are given to the beasts by a list.
func isGiven(d api.Drive, given []int) bool {
	if len(given) != len(d.Beasts) {
		return false
	}
	for i, x := range d.Beasts {
		if !slices.Contains(x.Owners, given[i]) || has(d, given, given[i], x.Sort) > most(d, given[i], x.Sort) {
			return false
		}
	}
	return true
}

// lists has all lists by which owners are given.
func lists(d api.Drive) [][]int {
	all := [][]int{{}}
	for _, x := range d.Beasts {
		var longer [][]int
		for _, l := range all {
			for _, owner := range x.Owners {
				longer = append(longer, append(slices.Clone(l), owner))
			}
		}
		all = longer
	}
	return slices.DeleteFunc(all, func(l []int) bool { return !isGiven(d, l) })
}

// rangeOf has the least and the greatest number that something is, of all lists.
func rangeOf(lists [][]int, number func(given []int) int) api.Range {
	r := api.Range{Lo: number(lists[0]), Hi: number(lists[0])}
	for _, l := range lists {
		r.Lo, r.Hi = min(r.Lo, number(l)), max(r.Hi, number(l))
	}
	return r
}

// counts is what Count is of all lists.
func counts(d api.Drive, lists [][]int, owner, sort int) api.Range {
	return rangeOf(lists, func(given []int) int { return has(d, given, owner, sort) })
}

// subsets has all rising lists of beasts of a drive.
func subsets(d api.Drive) [][]int {
	all := [][]int{nil}
	for _, x := range d.Beasts {
		for _, l := range all[:len(all):len(all)] {
			all = append(all, append(slices.Clone(l), x.Beast))
		}
	}
	return all
}

// ofOneSort reports whether all of the beasts with some numbers are of a sort.
func ofOneSort(d api.Drive, numbers []int, sort int) bool {
	for _, x := range d.Beasts {
		if slices.Contains(numbers, x.Beast) && x.Sort != sort {
			return false
		}
	}
	return true
}

// shown is how many beasts are more than the most of all who are possible for one of them, but an owner.
func shown(d api.Drive, numbers []int, owner, sort int) int {
	n := len(numbers)
	for other := 1; other <= api.MaxOwner; other++ {
		possible := slices.ContainsFunc(d.Beasts, func(x api.Counted) bool {
			return slices.Contains(numbers, x.Beast) && slices.Contains(x.Owners, other)
		})
		if possible && other != owner {
			n -= most(d, other, sort)
		}
	}
	return n
}

// one has a result and its error in one text.
func one[T any](x T, e api.Errno) string { return fmt.Sprint(x, " ", int(e)) }

func want[T any](t *testing.T, name string, got T, e api.Errno, wanted T, wantedE api.Errno) {
	t.Helper()
	if g, w := one(got, e), one(wanted, wantedE); g != w {
		t.Errorf("%s: %s; want %s", name, g, w)
	}
}

func wantErrno(t *testing.T, name string, e, wanted api.Errno) {
	t.Helper()
	if e != wanted {
		t.Errorf("%s: %d; want %d", name, e, wanted)
	}
}

// eachShare goes through the owners and sorts of random drives, and one of each that they have not.
func eachShare(ask func(owner, sort int)) {
	for owner := 1; owner <= someOwners+1; owner++ {
		for sort := 1; sort <= someSorts+1; sort++ {
			ask(owner, sort)
		}
	}
}

// narrowed is a random narrowing of a beast of a drive, if it is sound.
func narrowed(x *rand.Rand, d api.Drive) (api.Drive, bool) {
	beast := d.Beasts[x.IntN(len(d.Beasts))].Beast
	n, e := drive.Narrow(d, beast, randomOwners(x))
	return n, e == api.OK && len(lists(n)) > 0
}
