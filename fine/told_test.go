package fine_test

import (
	"fmt"
	"math/rand/v2"
	"slices"
	"testing"

	"pinfold/api"
	"pinfold/fine"
)

// P6.1: what is known of all stays of random accounts is as the chapter tells it.
func TestTold(t *testing.T) {
	each(3000, func(_ *rand.Rand, p api.Account, known int) {
		var stays []int
		for _, s := range p.Stays {
			if isTold(s.Known, s.Until, known) {
				stays = append(stays, s.Source)
				wantTold(t, p, s, known)
			} else {
				wantUnknown(t, p, s.Source, known)
			}
		}
		wantUnknown(t, p, 90, known)
		got, e := fine.Stays(p, known)
		want(t, "Stays", got, e, stays, api.OK)
	})
}

// wantTold compares all that is told of one stay.
func wantTold(t *testing.T, p api.Account, s api.Held, known int) {
	t.Helper()
	name := fmt.Sprint(p, s.Source, known)
	var notes []int
	for _, n := range notesOn(p, s, known) {
		notes = append(notes, n.Source)
	}
	got, e := fine.Notes(p, s.Source, known)
	want(t, "Notes "+name, got, e, notes, api.OK)
	n, e := fine.Fed(p, s.Source, known)
	want(t, "Fed "+name, n, e, len(daysFed(p, s, known)), api.OK)
	want(t, "Lot "+name, lotOf(t, p, s.Source, known), api.OK, retoldLot(p, s, known), api.OK)
	want(t, "Charged "+name, chargeOf(t, p, s.Source, known), api.OK, retoldCharge(p, s, known), api.OK)
	want(t, "Dues "+name, dueOf(t, p, s.Source, known), api.OK, retoldDue(p, s, known), api.OK)
}

// wantUnknown asks for a stay that does not count.
func wantUnknown(t *testing.T, p api.Account, stay, known int) {
	t.Helper()
	l, e := fine.Notes(p, stay, known)
	want(t, "Notes", l, e, nil, api.ErrUnknown)
	lot, e := fine.Lot(p, stay, known)
	want(t, "Lot", lot, e, api.Lot{}, api.ErrUnknown)
	n, e := fine.Fed(p, stay, known)
	want(t, "Fed", n, e, 0, api.ErrUnknown)
	c, e := fine.Charged(p, stay, known)
	want(t, "Charged", c, e, api.Charge{}, api.ErrUnknown)
	d, e := fine.Dues(p, stay, known)
	want(t, "Dues", d, e, api.Due{}, api.ErrUnknown)
}

// P6.1: a stay and a note count from the day Known on, up to the day ahead of Until.
func TestCounts(t *testing.T) {
	p := keep(api.Note{Kind: api.Claimed, Owner: 3, Day: 13, Known: 14, Until: 20})
	p.Stays[0].Until = 30
	for known, wanted := range map[int][]int{9: nil, 10: {1}, 29: {1}, 30: nil, 31: nil} {
		got, e := fine.Stays(p, known)
		want(t, fmt.Sprint("Stays ", known), got, e, wanted, api.OK)
	}
	for known, wanted := range map[int][]int{13: nil, 14: {2}, 19: {2}, 20: nil} {
		got, e := fine.Notes(p, 1, known)
		want(t, fmt.Sprint("Notes ", known), got, e, wanted, api.OK)
	}
}

// P6.1: a note says something only of its stay, and only from the stay's day on, up to the day on which it is asked for.
func TestNotesOfAStay(t *testing.T) {
	for _, c := range []struct {
		stay, day int
		want      []int
	}{{1, 9, nil}, {1, 10, []int{2}}, {1, 20, []int{2}}, {1, 21, nil}, {2, 15, nil}, {3, 15, nil}} {
		p := noted(api.Note{Kind: api.Claimed, Owner: 3, Day: c.day})
		p.Notes[0].Stay = c.stay
		p.Stays = append(p.Stays, changed(p.Stays[0], func(s *api.Held) { s.Source = 3 }))
		got, e := fine.Notes(p, 1, 20)
		want(t, fmt.Sprint("Notes ", c.stay, c.day), got, e, c.want, api.OK)
	}
}

// P6.1: the owner is that of the last judgement, or else of the first claim; Stop is the first day of both.
func TestOwner(t *testing.T) {
	claim := func(owner, day, known int) api.Note {
		return api.Note{Kind: api.Claimed, Owner: owner, Day: day, Known: known}
	}
	judge := func(owner, day, known int) api.Note {
		return api.Note{Kind: api.Judged, Owner: owner, Day: day, Known: known}
	}
	for i, c := range []struct {
		notes       []api.Note
		owner, stop int
	}{
		{nil, 0, -1},
		{[]api.Note{{Kind: api.Freed, Day: 12, Known: 12}}, 0, -1},
		{[]api.Note{claim(3, 14, 14)}, 3, 14},
		{[]api.Note{claim(3, 14, 14), claim(4, 13, 18)}, 4, 13},
		{[]api.Note{claim(3, 13, 18), claim(4, 14, 14)}, 3, 13},
		{[]api.Note{claim(3, 14, 18), claim(4, 14, 14)}, 3, 14},
		{[]api.Note{claim(3, 14, 14), judge(4, 18, 18)}, 4, 14},
		{[]api.Note{claim(3, 18, 18), judge(4, 12, 12)}, 4, 12},
		{[]api.Note{judge(4, 12, 16), judge(5, 18, 18)}, 5, 12},
		{[]api.Note{judge(4, 18, 18), judge(5, 19, 16)}, 4, 18},
		{[]api.Note{judge(4, 12, 18), judge(5, 11, 18)}, 5, 11},
		{[]api.Note{judge(4, 11, 0), judge(5, 11, 0)}, 5, 11},
		{[]api.Note{judge(4, 12, 18), judge(5, 11, 21)}, 4, 12},
		{[]api.Note{judge(4, 12, 18), judge(5, 21, 20)}, 4, 12},
	} {
		lot := lotOf(t, keep(c.notes...), 1, 20)
		if lot.Owner != c.owner || lot.Stop != c.stop {
			t.Error(i, lot)
		}
	}
}

// P6.1: the ends of a stay that begins on the day 10, on the days of their ends and the days ahead.
func TestEnds(t *testing.T) {
	free := func(day int) api.Note { return api.Note{Kind: api.Freed, Day: day, Known: day} }
	claim := func(day int) api.Note { return api.Note{Kind: api.Claimed, Owner: 3, Day: day, Known: day} }
	judge := func(day int) api.Note { return api.Note{Kind: api.Judged, Owner: 3, Day: day, Known: day} }
	worth := func(worth int, p api.Account) api.Account {
		p.Stays[0].Worth = worth
		return p
	}
	for i, c := range []struct {
		p        api.Account
		end, day int
	}{
		{keep(free(10)), api.Released, 10},
		{keep(free(40)), api.Released, 40},
		{keep(free(40), free(30)), api.Released, 30},
		{noted(), api.Market, 59},
		{noted(free(58)), api.Released, 58},
		{noted(free(59)), api.Released, 59},
		{noted(free(60)), api.Market, 59},
		{worth(1, noted()), api.Market, 10},
		{worth(10, noted()), api.Market, 10},
		{worth(11, noted()), api.Market, 11},
		{keep(), api.Forfeit, 371},
		{keep(claim(371)), api.Forfeit, 371},
		{keep(claim(370)), api.Left, 730},
		{keep(judge(370)), api.Left, 730},
		{keep(judge(371)), api.Forfeit, 371},
		{keep(free(371)), api.Released, 371},
		{keep(free(372)), api.Forfeit, 371},
		{keep(claim(370), free(730)), api.Released, 730},
		{keep(claim(370), free(731)), api.Left, 730},
		{worth(3620, keep()), api.Market, 371},
		{worth(3621, keep()), api.Forfeit, 371},
		{worth(7210, keep(claim(10))), api.Market, 730},
		{worth(7211, keep(claim(10))), api.Left, 730},
	} {
		for known, wanted := range map[int]api.Lot{c.day - 1: {Day: -1}, c.day: {End: c.end, Day: c.day}, 900: {End: c.end, Day: c.day}} {
			lot := lotOf(t, c.p, 1, max(known, 10))
			if known >= 10 && (lot.End != wanted.End || lot.Day != wanted.Day) {
				t.Error(i, known, lot, c)
			}
		}
	}
}

// P6.1: the days of feed have the day of the end only at the market.
func TestFed(t *testing.T) {
	freed := keep(api.Note{Kind: api.Freed, Day: 10, Known: 10})
	for i, c := range []struct {
		p           api.Account
		known, want int
	}{
		{example(), 10, 1}, {example(), 14, 5}, {example(), 15, 5}, {example(), 16, 5}, {freed, 10, 0}, {freed, 20, 0},
		{noted(), 59, 50}, {noted(), 60, 50}, {keep(), 370, 361}, {keep(), 371, 361}, {keep(), 372, 361},
	} {
		n, e := fine.Fed(c.p, 1, c.known)
		want(t, fmt.Sprint("Fed ", i), n, e, c.want, api.OK)
	}
}

// P6.1: a stay that is known of ahead of its day costs nothing yet, and has no end.
func TestNotBegun(t *testing.T) {
	p := example()
	p.Stays[0].Known = 0
	p.Notes[0].Day, p.Notes[0].Known = 9, 0
	want(t, "Lot", lotOf(t, p, 1, 9), api.OK, api.Lot{Stop: -1, Day: -1}, api.OK)
	want(t, "Charged", chargeOf(t, p, 1, 9), api.OK, api.Charge{}, api.OK)
	want(t, "Dues", dueOf(t, p, 1, 9), api.OK, api.Due{Payer: -1}, api.OK)
	n, e := fine.Fed(p, 1, 9)
	want(t, "Fed", n, e, 0, api.OK)
	l, e := fine.Inside(p, 9)
	want(t, "Inside", l, e, nil, api.OK)
	l, e = fine.Ended(p, api.Standing, 9)
	want(t, "Ended", l, e, []int{1}, api.OK)
}

// P6.1: each day is charged by the tariff in force on it; head and shares are those of the first day.
func TestTariffs(t *testing.T) {
	p := keep(api.Note{Kind: api.Claimed, Owner: 3, Day: 14, Known: 14})
	p.Stays[0].Eats = 19 // pounds: 9 pence at 5, and 5 at 3
	p.Tariffs = append(p.Tariffs, api.Tariff{From: 12, Head: api.Rates{1: 100}, Daily: api.Rates{1: 7}, Feed: 3, Hayward: 60})
	want(t, "Charged", chargeOf(t, p, 1, 15), api.OK, api.Charge{Head: 12, Feed: 9 + 9 + 4*5, Fine: 4 + 4 + 7 + 7}, api.OK)
	want(t, "Dues", dueOf(t, p, 1, 15), api.OK, api.Due{Payer: 5, Hayward: 24, Driver: 12, Lord: 36}, api.OK)
	p.Tariffs = p.Tariffs[1:]
	want(t, "Charged", chargeOf(t, p, 1, 15), api.OK, api.Charge{Feed: 4 * 5, Fine: 7 + 7}, api.OK)
	want(t, "Dues", dueOf(t, p, 1, 15), api.OK, api.Due{Payer: 5, Lord: 34}, api.OK)
	p.Tariffs = nil
	want(t, "Charged", chargeOf(t, p, 1, 15), api.OK, api.Charge{}, api.OK)
	want(t, "Dues", dueOf(t, p, 1, 15), api.OK, api.Due{Payer: 5}, api.OK)
}

// P6.1: who pays at each end, and how it is shared, rounded down; the lord gets the rest.
func TestDues(t *testing.T) {
	claim := api.Note{Kind: api.Claimed, Owner: 3, Day: 10, Known: 10}
	late := api.Note{Kind: api.Claimed, Owner: 3, Day: 371, Known: 371}
	alone := changed(noted(claim), func(p *api.Account) { p.Stays[0].Driver = 0 })
	odd := changed(noted(claim), func(p *api.Account) { p.Stays[0].Worth = 59 })
	for i, c := range []struct {
		p     api.Account
		known int
		want  api.Due
	}{
		{noted(), 59, api.Due{Payer: 2, Hayward: 166, Driver: 83, Lord: 251}},
		{noted(claim), 59, api.Due{Payer: 2, Hayward: 166, Driver: 83, Lord: 251}},
		{noted(claim), 58, api.Due{Payer: 5, Hayward: 167, Driver: 83, Lord: 252}},
		{alone, 58, api.Due{Payer: 5, Hayward: 167, Lord: 335}},
		{odd, 900, api.Due{Payer: 2, Hayward: 19, Driver: 9, Lord: 31}},
		{keep(late), 371, api.Due{Payer: -1}},
		{keep(), 370, api.Due{Payer: -1}},
		{keep(claim), 730, api.Due{Payer: 5, Hayward: 2404, Driver: 1202, Lord: 3606}},
	} {
		want(t, fmt.Sprint("Dues ", i), dueOf(t, c.p, 1, c.known), api.OK, c.want, api.OK)
	}
}

// P6.1: Inside and Ended are the stays by their ends.
func TestInsideAndEnded(t *testing.T) {
	each(1500, func(_ *rand.Rand, p api.Account, known int) {
		var inside []int
		var ended [5][]int
		for _, s := range p.Stays {
			if isTold(s.Known, s.Until, known) {
				end := retoldLot(p, s, known).End
				ended[end] = append(ended[end], s.Source)
				if s.Day <= known && end == api.Standing {
					inside = append(inside, s.Source)
				}
			}
		}
		got, e := fine.Inside(p, known)
		want(t, "Inside", got, e, inside, api.OK)
		for way, wanted := range ended {
			got, e := fine.Ended(p, way, known)
			want(t, "Ended", got, e, wanted, api.OK)
		}
	})
}

// P6.1: Moved are the stays of which a source moves the due, or whether they count.
func TestMoved(t *testing.T) {
	each(1500, func(_ *rand.Rand, p api.Account, known int) {
		for source := range 20 {
			got, e := fine.Moved(p, source, known)
			wanted, wantedE := retoldMoved(p, source, known)
			want(t, fmt.Sprint("Moved ", p, source, known), got, e, wanted, wantedE)
		}
	})
}

// P6.1: what Moved has where a stay and a note of another one have one Source, and where a stay does not count or costs nothing.
func TestMovedBySource(t *testing.T) {
	p := example()
	p.Stays = append(p.Stays, changed(p.Stays[0], func(s *api.Held) { s.Source = 2 }), changed(p.Stays[0], func(s *api.Held) { s.Source, s.Known, s.Eats = 7, 16, 0 }))
	for _, c := range []struct {
		source, known int
		want          []int
	}{{1, 20, []int{1}}, {2, 20, []int{1, 2}}, {2, 13, []int{2}}, {3, 20, []int{1}}, {3, 15, []int{1}}, {3, 14, nil}, {7, 15, nil}, {7, 16, []int{7}}} {
		got, e := fine.Moved(p, c.source, c.known)
		want(t, fmt.Sprint("Moved ", c.source, c.known), got, e, c.want, api.OK)
	}
	for _, source := range []int{0, 4, -1, 5, 1 << 40} {
		got, e := fine.Moved(p, source, 20)
		want(t, "Moved", got, e, nil, api.ErrNone)
	}
}

// P6.1: the greatest account has no sum that does not fit.
func TestFullAccount(t *testing.T) {
	p := fullAccount()
	s := p.Stays[0]
	for _, known := range []int{0, s.Day, api.MaxDay - 1} {
		wantTold(t, p, s, known)
	}
	got, e := fine.Stays(p, api.MaxDay)
	want(t, "Stays", got, e, nil, api.OK)
	all, e := fine.Stays(p, api.MaxDay-1)
	want(t, "Stays", len(all), e, api.MaxHeld, api.OK)
	if !slices.IsSorted(all) {
		t.Error(all)
	}
	n, e := fine.Owed(p, api.MaxOwner, api.MaxDay-1)
	want(t, "Owed", n, e, api.MaxHeld*toPay(p, s, api.MaxDay-1), api.OK)
}
