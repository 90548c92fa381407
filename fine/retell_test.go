package fine_test

import (
	"slices"

	"pinfold/api"
)

// This file retells the chapter, as plainly as it goes.

// isTold reports whether something counts, as known on a day.
func isTold(from, until, known int) bool {
	if until == 0 {
		return known >= from
	}
	return known >= from && known < until
}

// notesOn are those that say something of a stay.
func notesOn(p api.Account, s api.Held, known int) []api.Note {
	var l []api.Note
	for _, n := range p.Notes {
		if n.Stay == s.Source && isTold(n.Known, n.Until, known) && n.Day >= s.Day && n.Day <= known {
			l = append(l, n)
		}
	}
	return l
}

// ofKind are the notes of a kind.
func ofKind(l []api.Note, kind int) []api.Note {
	return slices.DeleteFunc(slices.Clone(l), func(n api.Note) bool { return n.Kind != kind })
}

// tariffOn has all of it 0 if there is none.
func tariffOn(p api.Account, day int) api.Tariff {
	var t api.Tariff
	for _, x := range p.Tariffs {
		if x.From <= day {
			t = x
		}
	}
	return t
}

func feedOn(p api.Account, s api.Held, day int) int { return s.Eats * tariffOn(p, day).Feed / 10 }

// leastDay is -1 for no notes.
func leastDay(l []api.Note) int {
	if len(l) == 0 {
		return -1
	}
	day := l[0].Day
	for _, n := range l {
		day = min(day, n.Day)
	}
	return day
}

func ownerOf(l []api.Note) int {
	if judgements := ofKind(l, api.Judged); len(judgements) > 0 {
		last := slices.MaxFunc(judgements, func(a, b api.Note) int {
			return slices.Compare([]int{a.Known, a.Source}, []int{b.Known, b.Source})
		})
		return last.Owner
	}
	if claims := ofKind(l, api.Claimed); len(claims) > 0 {
		first := slices.MinFunc(claims, func(a, b api.Note) int {
			return slices.Compare([]int{a.Day, a.Source}, []int{b.Day, b.Source})
		})
		return first.Owner
	}
	return 0
}

// marketDay is the day on which feed has eaten the worth, -1 if it is behind a day.
func marketDay(p api.Account, s api.Held, last int) int {
	eaten := 0
	for day := s.Day; s.Worth != 0 && day <= last; day++ {
		eaten += feedOn(p, s, day)
		if eaten >= s.Worth {
			return day
		}
	}
	return -1
}

// retoldLot looks for the first of all ends.
func retoldLot(p api.Account, s api.Held, known int) api.Lot {
	l := notesOn(p, s, known)
	lot := api.Lot{Owner: ownerOf(l), Stop: leastDay(append(ofKind(l, api.Claimed), ofKind(l, api.Judged)...)), Day: -1}
	ends := [][]int{{leastDay(ofKind(l, api.Freed)), api.Released}, {marketDay(p, s, known), api.Market}, {s.Day + 720, api.Left}}
	if lot.Stop == -1 || lot.Stop > s.Day+360 {
		ends = append(ends, []int{s.Day + 361, api.Forfeit})
	}
	ends = slices.DeleteFunc(ends, func(end []int) bool { return end[0] == -1 || end[0] > known })
	if len(ends) > 0 {
		first := slices.MinFunc(ends, slices.Compare)
		lot.Day, lot.End = first[0], first[1]
	}
	return lot
}

// daysFed are all days of feed.
func daysFed(p api.Account, s api.Held, known int) []int {
	lot := retoldLot(p, s, known)
	var l []int
	for day := s.Day; day <= known; day++ {
		if lot.End == api.Standing || day < lot.Day || lot.End == api.Market && day == lot.Day {
			l = append(l, day)
		}
	}
	return l
}

func retoldCharge(p api.Account, s api.Held, known int) api.Charge {
	var c api.Charge
	if s.Day <= known {
		c.Head = tariffOn(p, s.Day).Head[s.Sort]
	}
	stop := retoldLot(p, s, known).Stop
	for _, day := range daysFed(p, s, known) {
		c.Feed += feedOn(p, s, day)
		if stop == -1 || day < stop {
			c.Fine += tariffOn(p, day).Daily[s.Sort]
		}
	}
	return c
}

// toPay is all that is paid for a stay.
func toPay(p api.Account, s api.Held, known int) int {
	lot, c := retoldLot(p, s, known), retoldCharge(p, s, known)
	switch {
	case lot.End == api.Market:
		return s.Worth
	case lot.End == api.Forfeit, lot.Owner == 0:
		return 0
	}
	return c.Head + c.Feed + c.Fine
}

func retoldDue(p api.Account, s api.Held, known int) api.Due {
	lot, paid, t := retoldLot(p, s, known), toPay(p, s, known), tariffOn(p, s.Day)
	d := api.Due{Payer: -1, Hayward: paid * t.Hayward / 60}
	if lot.End == api.Market {
		d.Payer = 2
	} else if lot.End != api.Forfeit && lot.Owner != 0 {
		d.Payer = 2 + lot.Owner
	}
	if s.Driver != 0 {
		d.Driver = paid * t.Driver / 60
	}
	d.Lord = paid - d.Hayward - d.Driver
	return d
}

// dueOn is the due, or one of nobody if the stay does not count.
func dueOn(p api.Account, s api.Held, known int) api.Due {
	if !isTold(s.Known, s.Until, known) {
		return api.Due{Payer: -1}
	}
	return retoldDue(p, s, known)
}

// gets is what a party gets by a due from a payer; who drives for himself gets nothing from himself.
func gets(d api.Due, s api.Held, from, to int) int {
	switch {
	case d.Payer != from || from == to:
		return 0
	case to == 0:
		return d.Lord
	case to == 1:
		return d.Hayward
	case s.Driver != 0 && to == 2+s.Driver:
		return d.Driver
	}
	return 0
}

// retoldPosts asks each receiver and each payer.
func retoldPosts(p api.Account, days []int) []api.Posting {
	var l []api.Posting
	for i, day := range days {
		for _, s := range p.Stays {
			now, before := dueOn(p, s, day), api.Due{Payer: -1}
			if i > 0 {
				before = dueOn(p, s, days[i-1])
			}
			to := []int{0, 1}
			if s.Driver != 0 {
				to = append(to, 2+s.Driver)
			}
			for _, to := range to {
				for from := range 2 + api.MaxOwner + 1 {
					if a := gets(now, s, from, to) - gets(before, s, from, to); a != 0 {
						l = append(l, api.Posting{Day: day, Stay: s.Source, From: from, To: to, Amount: a})
					}
				}
			}
		}
	}
	return l
}

// retoldMoved compares all dues with those of the account without a source.
func retoldMoved(p api.Account, source, known int) ([]int, api.Errno) {
	rest := cloneAccount(p)
	rest.Stays = slices.DeleteFunc(rest.Stays, func(s api.Held) bool { return s.Source == source })
	rest.Notes = slices.DeleteFunc(rest.Notes, func(n api.Note) bool { return n.Source == source })
	if len(rest.Stays)+len(rest.Notes) == len(p.Stays)+len(p.Notes) {
		return nil, api.ErrNone
	}
	var moved []int
	for _, s := range p.Stays {
		if isTold(s.Known, s.Until, known) && (s.Source == source || retoldDue(p, s, known) != retoldDue(rest, s, known)) {
			moved = append(moved, s.Source)
		}
	}
	return moved, api.OK
}
