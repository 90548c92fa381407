package plaint

import (
	"cmp"
	"iter"
	"slices"

	"pinfold/api"
)

// set is a set of indices, of plaints or of sureties of a case: 1 << index, added up.
type set int

func (s set) has(i int) bool { return s&(1<<i) != 0 }

func (s set) with(i int) set { return s | 1<<i }

func (s set) without(i int) set { return s &^ (1 << i) }

// members yields the indices of a set, rising.
func (s set) members() iter.Seq[int] {
	return func(yield func(i int) bool) {
		for i := 0; s>>i != 0; i++ {
			if s.has(i) && !yield(i) {
				return
			}
		}
	}
}

// subsets yields all sets that have some of a set's members, or none.
func (s set) subsets() iter.Seq[set] {
	return func(yield func(part set) bool) {
		for part := range s + 1 {
			if part&^s == 0 && !yield(part) {
				return
			}
		}
	}
}

// docket is a case that is looked at, as known on a day; its sets are of the indices of its plaints.
type docket struct {
	api.Case
	known            int
	stand            []set // for each plaint, which sureties stand for it
	allowed, refused set
	doubted          set // the first plaint that was refused, and those that were allowed ahead of it
}

// entered is the day from which on a plaint is entered.
func entered(p api.Plaint) int { return max(p.Day, p.Known) }

// lookAt finds out which plaints of a case are allowed, as known on a day.
func lookAt(c api.Case, known int) (docket, api.Errno) {
	if e := checkKnown(c, known); e != api.OK {
		return docket{}, e
	}
	return look(c, known), api.OK
}

// lookAtOne also returns the index of a plaint that is entered.
func lookAtOne(c api.Case, id, known int) (docket, int, api.Errno) {
	x, e := lookAt(c, known)
	if e != api.OK {
		return docket{}, 0, e
	}
	i, there := x.index(id)
	return x, i, errorUnless(there, api.ErrNone)
}

// look is lookAt of a valid case.
func look(c api.Case, known int) docket {
	x := docket{Case: c, known: known}
	for _, p := range x.Plaints {
		x.stand = append(x.stand, x.sureties(p))
	}
	for _, i := range x.order() {
		more := x.allowed.with(i)
		switch {
		case x.good(more):
			x.allowed = more
		case x.doubted == 0:
			x.refused, x.doubted = x.refused.with(i), more
		default:
			x.refused = x.refused.with(i)
		}
	}
	return x
}

// sureties are those that stand for a plaint.
func (x docket) sureties(p api.Plaint) set {
	var s set
	for _, id := range p.Sureties {
		j, _ := place(x.Sureties, id, idOfSurety)
		s = s.with(j)
	}
	return s
}

// order has the indices of the plaints that are entered, in the order in which they are.
func (x docket) order() []int {
	var l []int
	for i, p := range x.Plaints {
		if entered(p) <= x.known {
			l = append(l, i)
		}
	}
	slices.SortStableFunc(l, func(i, j int) int { return cmp.Compare(entered(x.Plaints[i]), entered(x.Plaints[j])) })
	return l
}

// index returns that of a plaint, and whether it is there, and entered.
func (x docket) index(id int) (int, bool) {
	i, there := place(x.Plaints, id, idOfPlaint)
	return i, there && (x.allowed | x.refused).has(i)
}

// ids are those of a set of plaints.
func (x docket) ids(s set) []int {
	var l []int
	for i := range s.members() {
		l = append(l, x.Plaints[i].Id)
	}
	return l
}

// inForce returns the finding in force on a plaint, and whether there is one.
func (x docket) inForce(i int) (api.Finding, bool) {
	var last api.Finding
	for _, f := range x.Findings {
		if f.Plaint == x.Plaints[i].Id && f.Known <= x.known && f.Day >= last.Day {
			last = f
		}
	}
	return last, last.Source != 0
}

// open has the plaints that are allowed and on which there is no finding in force.
func (x docket) open() set {
	s := x.allowed
	for i := range x.allowed.members() {
		if _, ok := x.inForce(i); ok {
			s = s.without(i)
		}
	}
	return s
}
