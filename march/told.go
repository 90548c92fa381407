package march

import (
	"cmp"

	"pinfold/api"
)

// Out returns the riders that a pound has for another manor.
func Out(p api.Pound, to int) ([]api.Rider, api.Errno) {
	if e := cmp.Or(Check(p), checkOther(p.Me, to)); e != api.OK {
		return nil, e
	}
	// What a crash may take back must not be told.
	s, e := stand(written(p, p.Firm))
	if e != api.OK {
		return nil, e
	}
	var l []api.Rider
	for _, sender := range []int{p.Me, to} {
		for r := range s.ridersOf(sender) {
			if r.To == to {
				l = append(l, r)
			}
		}
	}
	return l, api.OK
}

// Here returns the beasts that are here.
func Here(p api.Pound) ([]int, api.Errno) {
	s, e := stand(p)
	if e != api.OK {
		return nil, e
	}
	return s.beasts(), api.OK
}

// Rides returns the rides that have not ended.
func Rides(p api.Pound) ([]api.Ride, api.Errno) {
	s, e := stand(p)
	if e != api.OK {
		return nil, e
	}
	return s.rides(), api.OK
}

// Knows tells what a pound knows of a ride of another manor.
func Knows(p api.Pound, from, no int) (int, api.Errno) {
	s, e := stand(p)
	if e := cmp.Or(e, checkOther(p.Me, from), errorUnless(validNo(no), api.ErrRide)); e != api.OK {
		return 0, e
	}
	return s.knows(from, no), api.OK
}

// Trace returns the entries about a beast.
func Trace(p api.Pound, beast int) ([]api.Entry, api.Errno) {
	if e := cmp.Or(Check(p), checkBeast(beast)); e != api.OK {
		return nil, e
	}
	var l []api.Entry
	for x := range entries(p.Journal) {
		if x.Beast == beast {
			l = append(l, x)
		}
	}
	return l, api.OK
}

// Where returns the manors in whose pounds a beast is.
func Where(l []api.Pound, beast int) ([]int, api.Errno) {
	all, e := standAll(l)
	if e := cmp.Or(e, checkBeast(beast)); e != api.OK {
		return nil, e
	}
	var manors []int
	for _, s := range all {
		if s.places[beast] == here {
			manors = append(manors, s.me)
		}
	}
	return manors, api.OK
}

// Riding returns the rides by which a beast is on its way.
func Riding(l []api.Pound, beast int) ([]api.Ride, api.Errno) {
	all, e := standAll(l)
	if e := cmp.Or(e, checkBeast(beast)); e != api.OK {
		return nil, e
	}
	var rides []api.Ride
	for _, s := range all {
		for _, x := range s.rides() {
			if x.Beast == beast && !isTaken(all, s.me, x) {
				rides = append(rides, x)
			}
		}
	}
	return rides, api.OK
}

// isTaken reports whether a ride of a manor was taken, as far as one of the pounds is that of its To.
func isTaken(all []*standing, sender int, x api.Ride) bool {
	for _, s := range all {
		if s.me == x.To {
			return s.knows(sender, x.No) == api.EnTake
		}
	}
	return false
}
