package stint

import "pinfold/api"

// share is of a holding on a pasture.
type share struct{ holding, pasture int }

// state is what is so on a day, as known.
type state struct {
	common   api.Common
	day      int
	owners   map[int]int  // of the holdings that are there
	was      map[int]bool // holdings that were there at any time
	rights   map[share]int
	lettings []api.Deed
	openings []api.Deed // and closings
	void     []api.Item
}

// stateOn applies the deeds of a valid common.
func stateOn(c api.Common, w api.When) *state {
	s := &state{common: c, day: w.Day, owners: map[int]int{}, was: map[int]bool{}, rights: map[share]int{}}
	apply := effects()
	for x := range inOrder(c, w) {
		if !apply[x.Kind](s, x) {
			s.void = append(s.void, x.At)
		}
	}
	return s
}

// effects has, for each kind, what a deed does; it reports false, and does nothing, if the deed is void.
func effects() map[int]func(s *state, x api.Deed) bool {
	return map[int]func(s *state, x api.Deed) bool{
		api.DeHold:  (*state).hold,
		api.DeRight: (*state).give,
		api.DeOwner: (*state).sell,
		api.DeSplit: (*state).split,
		api.DeJoin:  (*state).join,
		api.DeLet:   (*state).let,
		api.DeOpen:  (*state).openOrClose,
		api.DeClose: (*state).openOrClose,
	}
}

func (s *state) hold(x api.Deed) bool {
	if s.was[x.Holding] {
		return false
	}
	s.was[x.Holding] = true
	s.owners[x.Holding] = x.Owner
	return true
}

func (s *state) give(x api.Deed) bool {
	if !s.there(x.Holding) || !s.has(x.Pasture) || s.total(x.Pasture)+x.Parts > maxTotal {
		return false
	}
	s.rights[share{x.Holding, x.Pasture}] += x.Parts
	return true
}

func (s *state) sell(x api.Deed) bool {
	if !s.there(x.Holding) {
		return false
	}
	s.owners[x.Holding] = x.Owner
	return true
}

func (s *state) split(x api.Deed) bool {
	if !s.canPart(x) {
		return false
	}
	s.rights[share{x.Holding, x.Pasture}] -= x.Parts
	s.rights[share{x.To, x.Pasture}] += x.Parts
	return true
}

func (s *state) join(x api.Deed) bool {
	if !s.there(x.Holding) || !s.there(x.To) || s.lets(x.Holding, x.Day) {
		return false
	}
	for _, p := range s.common.Pastures {
		from := share{x.Holding, p.Id}
		s.rights[share{x.To, p.Id}] += s.rights[from]
		delete(s.rights, from)
	}
	delete(s.owners, x.Holding)
	return true
}

func (s *state) let(x api.Deed) bool {
	if !s.canPart(x) {
		return false
	}
	s.lettings = append(s.lettings, x)
	return true
}

func (s *state) openOrClose(x api.Deed) bool {
	if !s.has(x.Pasture) {
		return false
	}
	s.openings = append(s.openings, x)
	return true
}

func (s *state) there(holding int) bool {
	_, ok := s.owners[holding]
	return ok
}

func (s *state) has(pasture int) bool { return checkHas(s.common, pasture) == api.OK }

// canPart reports whether the holding of a split or of a letting can give the parts away.
func (s *state) canPart(x api.Deed) bool {
	return s.there(x.Holding) && s.there(x.To) && x.Parts <= s.free(x.Holding, x.Pasture, x.Day)
}

// lets reports whether a letting by a holding, or to it, has not ended ahead of a day.
func (s *state) lets(holding, day int) bool {
	_, ok := last(s.lettings, func(x api.Deed) bool {
		return (x.Holding == holding || x.To == holding) && x.Until >= day
	})
	return ok
}

// right is how many parts a holding has.
func (s *state) right(holding, pasture int) int { return s.rights[share{holding, pasture}] }

// free is what a holding has, and has not let.
func (s *state) free(holding, pasture, day int) int {
	n := s.right(holding, pasture)
	for _, x := range s.lettings {
		if x.Holding == holding && x.Pasture == pasture && x.Until >= day {
			n -= x.Parts
		}
	}
	return n
}

// use is what a holding may use.
func (s *state) use(holding, pasture int) int {
	n := s.free(holding, pasture, s.day)
	for _, x := range s.lettings {
		if x.To == holding && x.Pasture == pasture && x.Until >= s.day {
			n += x.Parts
		}
	}
	return n
}

func (s *state) total(pasture int) int {
	n := 0
	for of, parts := range s.rights {
		if of.pasture == pasture {
			n += parts
		}
	}
	return n
}

// usable is what an owner may use.
func (s *state) usable(owner, pasture int) int {
	if !s.open(pasture) {
		return 0
	}
	n := 0
	for holding, of := range s.owners {
		if of == owner {
			n += s.use(holding, pasture)
		}
	}
	return n
}

// open reports whether a pasture of the common is open.
func (s *state) open(pasture int) bool {
	x, ok := last(s.openings, func(x api.Deed) bool {
		return x.Pasture == pasture && x.Until >= s.day
	})
	if ok {
		return x.Kind == api.DeOpen
	}
	p, _ := findPasture(s.common, pasture)
	return inSeason(p.Season, s.day%api.YearDays)
}
