package court

import (
	"cmp"
	"slices"

	"pinfold/api"
	"pinfold/herd"
)

// share is an owner's part of a drive in a sort.
type share struct{ owner, sort int }

// counting is a drive that is made, by what is known of beasts.
type counting struct {
	api.Drive
	marks      api.Marks
	events     []api.Event
	day, known int
	most       map[share]int
}

// Counts returns the drive of beasts that were counted, by what is known of them.
func Counts(m api.Marks, l []api.Event, beasts []int, day, known int) (api.Drive, api.Errno) {
	if _, e := herd.Bearers(m, l, 1, known); e != api.OK && e != api.ErrBeast {
		return api.Drive{}, e
	}
	alive, e := herd.Alive(l, day, known)
	counted := eachOnce(beasts)
	e = cmp.Or(e, errorUnless(allBeasts(counted), api.ErrArg), errorUnless(len(counted) <= api.MaxCounted, api.ErrLong))
	if e != api.OK {
		return api.Drive{}, e
	}
	x := &counting{marks: m, events: l, day: day, known: known, most: map[share]int{}}
	for _, no := range alive {
		x.see(no, slices.Contains(counted, no))
	}
	x.stock()
	return x.Drive, api.OK
}

// eachOnce puts numbers in rising order, each once.
func eachOnce(numbers []int) []int {
	l := slices.Clone(numbers)
	slices.Sort(l)
	return slices.Compact(l)
}

// allBeasts reports whether rising numbers are those of beasts.
func allBeasts(l []int) bool {
	return len(l) == 0 || l[0] >= 1 && l[len(l)-1] <= api.MaxBeast
}

// see takes a beast that is alive into account, whether it was counted or not.
func (x *counting) see(no int, counted bool) {
	// There are no errors: what is alive is known, and its owner, too.
	owner, _ := herd.Held(x.events, no, x.day, x.known)
	b, _ := herd.Beast(x.events, no, x.known)
	owners := []int{owner}
	if owner == 0 {
		owners = x.bearers(no, counted)
	}
	for _, owner := range owners {
		x.most[share{owner, b.Sort}]++
	}
	if counted && len(owners) > 0 {
		x.Beasts = append(x.Beasts, api.Counted{Source: no, Beast: no, Sort: b.Sort, Owners: owners})
	}
}

// bearers are the owners whose a beast may be which nobody holds; none if it is not of the drive.
func (x *counting) bearers(no int, counted bool) []int {
	if !counted {
		return nil
	}
	l, _ := herd.Bearers(x.marks, x.events, no, x.known)
	if len(l) > api.MaxWhose {
		return nil
	}
	return l
}

// stock gives the drive what each owner has at most.
func (x *counting) stock() {
	for owner := 1; owner <= api.MaxOwner; owner++ {
		for sort := 1; sort <= api.MaxSort; sort++ {
			if most := x.most[share{owner, sort}]; most != 0 {
				x.Stocks = append(x.Stocks, api.Stock{Owner: owner, Sort: sort, Most: most})
			}
		}
	}
}
