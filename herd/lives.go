package herd

import (
	"cmp"
	"maps"
	"slices"

	"pinfold/api"
)

// Standing returns the indices of the events that stand.
func Standing(l []api.Event, known int) ([]int, api.Errno) {
	if e := cmp.Or(Check(l), checkDays(known)); e != api.OK {
		return nil, e
	}
	return standing(l, known), api.OK
}

// standing is Standing of what is valid.
func standing(l []api.Event, known int) []int {
	var indices []int
	withdrawn := map[api.Item]bool{}
	// A withdrawal is behind the event that it names, so that it is decided first.
	for i, x := range slices.Backward(l) {
		if x.Known > known || withdrawn[x.At] {
			continue
		}
		if x.Kind == api.EvWithdraw {
			withdrawn[x.Of] = true
		}
		indices = append(indices, i)
	}
	slices.Reverse(indices)
	return indices
}

// inOrder yields the events that stand, and happened by a day, in the order in which they are applied.
func inOrder(l []api.Event, day, known int) func(yield func(x api.Event) bool) {
	return func(yield func(x api.Event) bool) {
		var happened []api.Event
		for _, i := range standing(l, known) {
			if x := l[i]; x.Kind != api.EvWithdraw && x.Day <= day {
				happened = append(happened, x)
			}
		}
		// The events of one day stay in the order of their items.
		slices.SortStableFunc(happened, func(a, b api.Event) int { return cmp.Compare(a.Day, b.Day) })
		for _, x := range happened {
			if !yield(x) {
				return
			}
		}
	}
}

// life is a beast under way, with what is known of it by then.
type life struct{ api.Beast }

func (x life) alive() bool { return x.Died < 0 }

// lives is what is known of all beasts that are there.
type lives struct {
	beasts map[int]*life
	void   []api.Item
}

// livesUpTo is what is known on a day, by the events of a valid list up to another day.
func livesUpTo(l []api.Event, day, known int) *lives {
	s := &lives{beasts: map[int]*life{}}
	apply := effects()
	for x := range inOrder(l, day, known) {
		if !apply[x.Kind](s, x) {
			s.void = append(s.void, x.At)
		}
	}
	return s
}

// allLives is what is known on a day.
func allLives(l []api.Event, known int) *lives { return livesUpTo(l, api.MaxDay, known) }

// effects has, for each kind, what an event does; it reports false, and does nothing, if the event is void.
func effects() map[int]func(s *lives, x api.Event) bool {
	return map[int]func(s *lives, x api.Event) bool{
		api.EvBorn:  (*lives).enter,
		api.EvStray: (*lives).enter,
		api.EvSold:  (*lives).sell,
		api.EvSeen:  (*lives).see,
		api.EvFound: (*lives).award,
		api.EvDied:  (*lives).die,
	}
}

// enter is of what was born and of what strayed in: a stray's event has neither owner nor dam.
func (s *lives) enter(x api.Event) bool {
	if s.beasts[x.Beast] != nil || x.Dam != 0 && !s.canBear(x) {
		return false
	}
	s.beasts[x.Beast] = &life{api.Beast{No: x.Beast, Sort: x.Sort, Dam: x.Dam, Owner: x.Owner, Bearer: x.Owner, Born: x.Day, Died: -1}}
	return true
}

// canBear reports whether the dam of a birth can have borne the beast.
func (s *lives) canBear(x api.Event) bool {
	dam := s.beasts[x.Dam]
	return dam != nil && dam.Sort == x.Sort && (dam.alive() || dam.Died >= x.Day)
}

func (s *lives) sell(x api.Event) bool {
	of := s.beasts[x.Beast]
	if of == nil || !of.alive() || of.Owner == 0 || of.Owner == x.Owner {
		return false
	}
	of.Owner = x.Owner
	return true
}

func (s *lives) see(x api.Event) bool {
	of := s.beasts[x.Beast]
	if of == nil {
		return false
	}
	of.Seen = append(of.Seen, x.Seen)
	return true
}

func (s *lives) award(x api.Event) bool {
	of := s.beasts[x.Beast]
	if of == nil {
		return false
	}
	of.Owner, of.Found = x.Owner, true
	return true
}

func (s *lives) die(x api.Event) bool {
	of := s.beasts[x.Beast]
	if of == nil || !of.alive() {
		return false
	}
	of.Died = x.Day
	return true
}

// find returns a beast; ErrBeast if it is not there.
func (s *lives) find(no int) (life, api.Errno) {
	x := s.beasts[no]
	if x == nil {
		return life{}, api.ErrBeast
	}
	return *x, api.OK
}

// numbers returns the beasts that are there, rising.
func (s *lives) numbers() []int { return slices.Sorted(maps.Keys(s.beasts)) }

// those returns the beasts of which something is so, rising.
func (s *lives) those(is func(x life) bool) []int {
	return slices.DeleteFunc(s.numbers(), func(no int) bool { return !is(*s.beasts[no]) })
}

// Void returns the items of the void events.
func Void(l []api.Event, known int) ([]api.Item, api.Errno) {
	if e := cmp.Or(Check(l), checkDays(known)); e != api.OK {
		return nil, e
	}
	void := allLives(l, known).void
	slices.SortFunc(void, compareItems)
	return void, api.OK
}
