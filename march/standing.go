package march

import (
	"iter"
	"slices"

	"pinfold/api"
)

// Where a beast is, as far as a pound knows.
const (
	elsewhere = iota
	here
	onItsWay // by a ride that this pound sent
)

// name is that of a ride: the manor that sent it, and its No.
type name struct{ sender, no int }

// standing is what stands of a pound, by the entries that were taken.
type standing struct {
	me     int
	places map[int]int
	sent   int
	// riders has the rider of each ride about which one goes out: of an own one that is on its way, and of one that was taken or refused.
	riders map[name]api.Rider
	does   map[int]func(x api.Entry) bool // what an entry of each kind does, as enter tells
}

// newStanding is that of a pound with an empty journal.
func newStanding(me int) *standing {
	s := &standing{me: me, places: map[int]int{}, riders: map[name]api.Rider{}}
	s.does = map[int]func(x api.Entry) bool{
		api.EnPound:   s.impound,
		api.EnRelease: s.release,
		api.EnSend:    s.send,
		api.EnCall:    s.call,
		api.EnDone:    s.end,
		api.EnBack:    s.bringBack,
		api.EnTake:    s.take,
		api.EnRefuse:  s.refuse,
	}
	return s
}

// stand takes all entries of a pound; ErrJournal if this is not valid.
func stand(p api.Pound) (s *standing, e api.Errno) {
	defer func() {
		if recover() != nil {
			s, e = nil, api.ErrJournal
		}
	}()
	mustBe(validManor(p.Me) && len(p.Journal) <= api.MaxJournal && within(p.Firm, 0, len(p.Journal)))
	s = newStanding(p.Me)
	for x := range entries(p.Journal) {
		mustBe(s.enter(x))
	}
	return s, api.OK
}

// entries yields the entries of a journal; it panics with ErrJournal at one that is not valid.
func entries(journal []api.Entry) iter.Seq[api.Entry] {
	return func(yield func(x api.Entry) bool) {
		for _, x := range journal {
			mustBe(CheckEntry(x) == api.OK)
			if !yield(x) {
				return
			}
		}
	}
}

// mustBe panics with ErrJournal unless something is so.
func mustBe(ok bool) {
	if !ok {
		panic(api.ErrJournal)
	}
}

// standAll takes the entries of several pounds; ErrPounds if these are none.
func standAll(l []api.Pound) ([]*standing, api.Errno) {
	if len(l) > api.MaxManors {
		return nil, api.ErrPounds
	}
	var all []*standing
	for i, p := range l {
		s, e := stand(p)
		if e != api.OK || i > 0 && l[i-1].Me >= p.Me {
			return nil, api.ErrPounds
		}
		all = append(all, s)
	}
	return all, api.OK
}

// enter takes an entry whose kind there is; it reports false, and nothing changes, if the entry may not be at its place.
func (s *standing) enter(x api.Entry) bool { return s.does[x.Kind](x) }

// move reports whether a beast was at a place; it is at another one then.
func (s *standing) move(beast, from, to int) bool {
	was := s.places[beast] == from
	if was {
		s.places[beast] = to
	}
	return was
}

// rider is the one of a kind that goes out about the ride of an entry.
func (s *standing) rider(kind int, x api.Entry) api.Rider {
	return api.Rider{Kind: kind, From: s.me, To: x.Other, Beast: x.Beast, No: x.No}
}

// goes reports whether an own ride is that of an entry, and its rider is of a kind.
func (s *standing) goes(kind int, x api.Entry) bool {
	return s.riders[name{s.me, x.No}] == s.rider(kind, x)
}

func (s *standing) impound(x api.Entry) bool { return s.move(x.Beast, elsewhere, here) }

func (s *standing) release(x api.Entry) bool { return s.move(x.Beast, here, elsewhere) }

func (s *standing) send(x api.Entry) bool {
	if x.Other == s.me || x.No != s.sent+1 || !s.move(x.Beast, here, onItsWay) {
		return false
	}
	s.sent++
	s.riders[name{s.me, x.No}] = s.rider(api.RdOffer, x)
	return true
}

func (s *standing) call(x api.Entry) bool {
	if !s.goes(api.RdOffer, x) {
		return false
	}
	s.riders[name{s.me, x.No}] = s.rider(api.RdRecall, x)
	return true
}

func (s *standing) end(x api.Entry) bool {
	// A ride that was called back too late has arrived all the same.
	if !s.goes(api.RdOffer, x) && !s.goes(api.RdRecall, x) {
		return false
	}
	delete(s.riders, name{s.me, x.No})
	return s.move(x.Beast, onItsWay, elsewhere)
}

func (s *standing) bringBack(x api.Entry) bool {
	return s.goes(api.RdRecall, x) && s.end(x) && s.impound(x)
}

func (s *standing) take(x api.Entry) bool {
	if !s.isNews(x) || !s.impound(x) {
		return false
	}
	s.riders[name{x.Other, x.No}] = s.rider(api.RdReceipt, x)
	return true
}

func (s *standing) refuse(x api.Entry) bool {
	if !s.isNews(x) {
		return false
	}
	s.riders[name{x.Other, x.No}] = s.rider(api.RdRefused, x)
	return true
}

// isNews reports whether the ride of an entry is another manor's, and was neither taken nor refused.
func (s *standing) isNews(x api.Entry) bool { return x.Other != s.me && s.knows(x.Other, x.No) == 0 }

// knows is the kind of the entry by which a ride of another manor was taken or refused, or 0.
func (s *standing) knows(from, no int) int {
	switch s.riders[name{from, no}].Kind {
	case api.RdReceipt:
		return api.EnTake
	case api.RdRefused:
		return api.EnRefuse
	}
	return 0
}

// ridersOf yields the riders of the rides that a manor sent, by rising No.
func (s *standing) ridersOf(sender int) iter.Seq[api.Rider] {
	return func(yield func(r api.Rider) bool) {
		for no := range api.MaxJournal + 1 {
			if r, ok := s.riders[name{sender, no}]; ok && !yield(r) {
				return
			}
		}
	}
}

// beasts are those that are here, rising.
func (s *standing) beasts() []int {
	var l []int
	for beast, place := range s.places {
		if place == here {
			l = append(l, beast)
		}
	}
	slices.Sort(l)
	return l
}

// rides are those that are on their way, by rising No.
func (s *standing) rides() []api.Ride {
	var l []api.Ride
	for r := range s.ridersOf(s.me) {
		l = append(l, api.Ride{No: r.No, To: r.To, Beast: r.Beast, Called: r.Kind == api.RdRecall})
	}
	return l
}
