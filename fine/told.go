package fine

import (
	"cmp"
	"iter"
	"slices"

	"pinfold/api"
)

// parts is what a share is a part of.
const parts = 60

// poundsPriced is how many pounds of feed a tariff names the price of.
const poundsPriced = 10

// forfeitAge is a year and a day: so long after its first day a beast that nobody claimed is the lord's.
const forfeitAge = api.YearDays + 1

// nobody pays where there is no payer.
const nobody = -1

// told is what is known on a day of a stay that counts then.
type told struct {
	stay    api.Held
	tariffs []api.Tariff
	notes   []api.Note // those that say something of it, by their Sources
	known   int
	lot     api.Lot
}

// tell finds out all that is known of a stay on a day.
func tell(p api.Account, s api.Held, known int) told {
	x := told{stay: s, tariffs: p.Tariffs, known: known}
	for _, n := range p.Notes {
		if saysOf(n, s, known) {
			x.notes = append(x.notes, n)
		}
	}
	x.lot = api.Lot{Owner: x.owner(), Stop: x.first(api.Claimed, api.Judged)}
	x.lot.End, x.lot.Day = x.end()
	return x
}

// counts reports whether what is known from a day on, up to the day ahead of until, is known on a day.
func counts(from, until, day int) bool { return from <= day && (until == 0 || until > day) }

// saysOf reports whether a note says something of a stay, as known on a day.
func saysOf(n api.Note, s api.Held, known int) bool {
	return counts(n.Known, n.Until, known) && n.Stay == s.Source && within(n.Day, s.Day, known)
}

// daysFrom yields the days from one up to another one.
func daysFrom(first, last int) iter.Seq[int] {
	return func(yield func(day int) bool) {
		for day := first; day <= last; day++ {
			if !yield(day) {
				return
			}
		}
	}
}

// inForce returns the tariff in force on a day, with all of it 0 if there is none, and whether there is one.
func inForce(tariffs []api.Tariff, day int) (api.Tariff, bool) {
	for _, t := range slices.Backward(tariffs) {
		if t.From <= day {
			return t, true
		}
	}
	return api.Tariff{}, false
}

func (x told) tariff(day int) api.Tariff {
	t, _ := inForce(x.tariffs, day)
	return t
}

// owner is the one that the last judgement names, or else the first claim; 0 if there is none.
func (x told) owner() int {
	var judged, claimed api.Note
	for _, n := range x.notes {
		switch {
		case n.Kind == api.Judged && n.Known >= judged.Known:
			judged = n
		case n.Kind == api.Claimed && (claimed.Owner == 0 || n.Day < claimed.Day):
			claimed = n
		}
	}
	return cmp.Or(judged.Owner, claimed.Owner)
}

// first is the least day of the notes of some kinds, -1 if there are none.
func (x told) first(kinds ...int) int {
	day := -1
	for _, n := range x.notes {
		if slices.Contains(kinds, n.Kind) && (day == -1 || n.Day < day) {
			day = n.Day
		}
	}
	return day
}

// end is how the stay ends, and on which day.
func (x told) end() (int, int) {
	s, stop, freed := x.stay, x.lot.Stop, x.first(api.Freed)
	unclaimed := stop == -1 || stop >= s.Day+forfeitAge
	eaten, end, on := 0, api.Standing, -1
search:
	for day := range daysFrom(s.Day, x.known) {
		eaten += x.feed(day)
		age := day - s.Day
		// Of several ways on one day the least one goes ahead.
		for way, is := range [...]bool{
			api.Released: day == freed,
			api.Market:   s.Worth != 0 && eaten >= s.Worth,
			api.Forfeit:  unclaimed && age == forfeitAge,
			api.Left:     age == api.MaxKept,
		} {
			if is {
				end, on = way, day
				break search
			}
		}
	}
	return end, on
}

// feed is what a day of feed costs.
func (x told) feed(day int) int { return x.stay.Eats * x.tariff(day).Feed / poundsPriced }

// fed yields the days of feed.
func (x told) fed() iter.Seq[int] {
	switch x.lot.End {
	case api.Standing:
		return daysFrom(x.stay.Day, x.known)
	case api.Market:
		return daysFrom(x.stay.Day, x.lot.Day)
	}
	return daysFrom(x.stay.Day, x.lot.Day-1)
}

// sum adds up what something is on each day of feed.
func (x told) sum(on func(day int) int) int {
	n := 0
	for day := range x.fed() {
		n += on(day)
	}
	return n
}

// charge is what the stay costs.
func (x told) charge() api.Charge {
	sort, stop := x.stay.Sort, x.lot.Stop
	c := api.Charge{Feed: x.sum(x.feed)}
	if x.stay.Day <= x.known {
		c.Head = x.tariff(x.stay.Day).Head[sort]
	}
	c.Fine = x.sum(func(day int) int {
		if stop != -1 && day >= stop {
			return 0
		}
		return x.tariff(day).Daily[sort]
	})
	return c
}

// payment is which party pays, and how much.
func (x told) payment() (int, int) {
	switch {
	case x.lot.End == api.Market:
		return api.Buyer, x.stay.Worth
	case x.lot.End == api.Forfeit || x.lot.Owner == 0:
		return nobody, 0
	}
	c := x.charge()
	return partyOf(x.lot.Owner), c.Head + c.Feed + c.Fine
}

// due is who pays for the stay, and how much each one gets.
func (x told) due() api.Due {
	payer, paid := x.payment()
	t := x.tariff(x.stay.Day)
	d := api.Due{Payer: payer, Hayward: paid * t.Hayward / parts}
	if x.stay.Driver != 0 {
		d.Driver = paid * t.Driver / parts
	}
	d.Lord = paid - d.Hayward - d.Driver
	return d
}

// partyOf is the party that an owner is.
func partyOf(owner int) int { return api.Buyer + owner }
