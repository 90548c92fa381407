package pen

import (
	"slices"

	"pinfold/api"
)

// load is beasts that are to stand in the pens of a valid yard.
type load struct {
	pens   []int // the rooms
	beasts []api.Kind
	apart  apartness
}

// newLoad is a load of valid beasts.
func newLoad(y api.Yard, l []int) load {
	x := load{pens: y.Pens, apart: apartnessOf(y)}
	for _, sort := range l {
		k, _ := kindOf(y, sort)
		x.beasts = append(x.beasts, k)
	}
	return x
}

// loadOf is a load of beasts that are checked.
func loadOf(y api.Yard, l []int) (load, api.Errno) {
	if e := CheckSorts(y, l); e != api.OK {
		return load{}, e
	}
	return newLoad(y, l), api.OK
}

// some is the load of some of the beasts.
func (x load) some(beasts []int) load {
	var kinds []api.Kind
	for _, i := range beasts {
		kinds = append(kinds, x.beasts[i])
	}
	x.beasts = kinds
	return x
}

// room is how much room the beasts take together.
func (x load) room() int {
	n := 0
	for _, k := range x.beasts {
		n += k.Room
	}
	return n
}

// pen is how much room is left in a pen, and which sorts stand in it.
type pen struct {
	free int
	has  sorts
}

// pens is the state of all pens of a yard; those that it has not have no room.
type pens [api.MaxPens]pen

// empty is the pens before a beast stands in them.
func (x load) empty() pens {
	var in pens
	for i, room := range x.pens {
		in[i].free = room
	}
	return in
}

// used is in how many pens a beast stands.
func (in pens) used() int {
	n := 0
	for _, p := range in {
		if p.has != 0 {
			n++
		}
	}
	return n
}

// put returns the pens with one more beast in one of them, and whether it may stand there.
func (x load) put(in pens, k api.Kind, i int) (pens, bool) {
	if in[i].free < k.Room || in[i].has.meets(x.apart[k.Sort]) {
		return pens{}, false
	}
	in[i].free -= k.Room
	in[i].has |= only(k.Sort)
	return in, true
}

// stand returns the pens with the beasts in them by a list, and whether it is a placement.
func (x load) stand(p []int) (pens, bool) {
	if len(p) != len(x.beasts) {
		return pens{}, false
	}
	in, ok := x.empty(), true
	for i, pen := range p {
		if !within(pen, 0, len(x.pens)-1) {
			return pens{}, false
		}
		in, ok = x.put(in, x.beasts[i], pen)
		if !ok {
			return pens{}, false
		}
	}
	return in, true
}

// search goes through the placements of a load that use at most so many pens.
type search struct {
	load
	most  int
	tried map[pens]bool // from these no placement comes
	p     []int
	found int
	yield func(p []int) bool
}

// placements yields the placements that use at most so many pens, in their order.
func (x load) placements(most int) func(yield func(p []int) bool) {
	return func(yield func(p []int) bool) {
		s := search{load: x, most: most, tried: map[pens]bool{}, yield: yield}
		s.extend(x.empty())
	}
}

// extend goes through the pens for the next beast, and for those behind it, and reports whether more placements are asked for.
func (s *search) extend(in pens) bool {
	i, before := len(s.p), s.found
	if i == len(s.beasts) {
		s.found++
		return s.yield(slices.Clone(s.p))
	}
	for pen := range s.pens {
		next, ok := s.put(in, s.beasts[i], pen)
		if !ok || next.used() > s.most || s.tried[next] {
			continue
		}
		s.p = append(s.p, pen)
		if !s.extend(next) {
			return false
		}
		s.p = s.p[:i]
	}
	// Each beast takes room, so that the pens tell how many stand in them: they stand for the beasts that are left, too.
	if s.found == before {
		s.tried[in] = true
	}
	return true
}

// nth returns the placement that has so many ahead of it, and whether there is one.
func (x load) nth(n int) ([]int, bool) {
	for p := range x.placements(len(x.pens)) {
		if n == 0 {
			return p, true
		}
		n--
	}
	return nil, false
}

// fits reports whether there is a placement.
func (x load) fits() bool {
	_, ok := x.nth(0)
	return ok
}
