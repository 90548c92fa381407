package fine_test

import (
	"fmt"
	"math/rand/v2"
	"slices"
	"testing"

	"pinfold/api"
	"pinfold/fine"
)

// example is the account A of the chapter's examples.
func example() api.Account {
	return api.Account{
		Tariffs: []api.Tariff{{From: 0, Head: api.Rates{1: 12}, Daily: api.Rates{1: 4}, Feed: 5, Hayward: 20, Driver: 10}},
		Stays:   []api.Held{{Source: 1, Beast: 7, Sort: 1, Eats: 20, Worth: 500, Driver: 9, Day: 10, Known: 10}},
		Notes: []api.Note{
			{Source: 2, Stay: 1, Kind: api.Claimed, Owner: 3, Day: 13, Known: 14},
			{Source: 3, Stay: 1, Kind: api.Freed, Day: 15, Known: 15},
		},
	}
}

// judged is the example with the note of the examples that finds another owner.
func judged() api.Account {
	p := example()
	p.Notes = append(p.Notes, api.Note{Source: 4, Stay: 1, Kind: api.Judged, Owner: 6, Day: 18, Known: 18})
	return p
}

// noted is the example with these notes alone, on its only stay, by Sources from 2 on.
func noted(notes ...api.Note) api.Account {
	p := example()
	p.Notes = nil
	for i, n := range notes {
		n.Source, n.Stay = i+2, 1
		p.Notes = append(p.Notes, n)
	}
	return p
}

// keep is the example as kept for so long that it is not sold, with these notes alone.
func keep(notes ...api.Note) api.Account {
	p := noted(notes...)
	p.Stays[0].Worth = 0
	return p
}

// fullAccount has as much of all as an account may have.
func fullAccount() api.Account {
	var most api.Rates
	for sort := 1; sort <= api.MaxSort; sort++ {
		most[sort] = api.MaxPence
	}
	var p api.Account
	for i := range api.MaxTariffs {
		p.Tariffs = append(p.Tariffs, api.Tariff{From: api.MaxDay - api.MaxTariffs + 1 + i, Head: most, Daily: most, Feed: api.MaxPence, Hayward: 20, Driver: 40})
	}
	p.Tariffs[0].From = 0
	for i := range api.MaxHeld {
		p.Stays = append(p.Stays, api.Held{Source: i + 1, Beast: api.MaxBeast, Sort: api.MaxSort, Eats: api.MaxFodder, Driver: api.MaxOwner,
			Day: api.MaxDay - 700, Known: 0, Until: api.MaxDay})
	}
	for i := range api.MaxNotes {
		p.Notes = append(p.Notes, api.Note{Source: api.MaxSource - api.MaxNotes + 1 + i, Stay: i + 1, Kind: api.Judged, Owner: api.MaxOwner,
			Day: api.MaxDay - 1, Known: api.MaxDay - 1})
	}
	return p
}

// postings are those with these numbers: day, stay, from, to and amount.
func postings(rows [][5]int) []api.Posting {
	var l []api.Posting
	for _, r := range rows {
		l = append(l, api.Posting{Day: r[0], Stay: r[1], From: r[2], To: r[3], Amount: r[4]})
	}
	return l
}

func cloneAccount(p api.Account) api.Account {
	return api.Account{Tariffs: slices.Clone(p.Tariffs), Stays: slices.Clone(p.Stays), Notes: slices.Clone(p.Notes)}
}

func newRandom() *rand.Rand { return rand.New(rand.NewPCG(6, 11)) }

// pick is one of some values.
func pick[T any](x *rand.Rand, l ...T) T { return l[x.IntN(len(l))] }

// randomAge is so many days behind another one that something may just begin or end.
func randomAge(x *rand.Rand) int {
	return pick(x, 0, x.IntN(6), x.IntN(30), x.IntN(750), 359+x.IntN(5), 718+x.IntN(5))
}

// randomUntil is for ever, or a day behind known.
func randomUntil(x *rand.Rand, known int) int {
	if x.IntN(3) > 0 {
		return 0
	}
	return known + 1 + randomAge(x)
}

func randomRates(x *rand.Rand) api.Rates {
	return api.Rates{1: x.IntN(60), 5: x.IntN(60), 9: x.IntN(60)}
}

func randomTariffs(x *rand.Rand) []api.Tariff {
	var l []api.Tariff
	from := pick(x, 0, 0, x.IntN(30), x.IntN(400))
	for range x.IntN(5) {
		hayward := x.IntN(61)
		l = append(l, api.Tariff{From: from, Head: randomRates(x), Daily: randomRates(x), Feed: x.IntN(30), Hayward: hayward, Driver: x.IntN(61 - hayward)})
		from += 1 + randomAge(x)
	}
	return l
}

// randomAccount has few owners, so that the same ones claim, drive and pay.
func randomAccount(x *rand.Rand) api.Account {
	p := api.Account{Tariffs: randomTariffs(x)}
	for i := range x.IntN(5) {
		day := randomAge(x)
		known := pick(x, day, day, x.IntN(day+1), day+randomAge(x))
		p.Stays = append(p.Stays, api.Held{Source: 2*i + 1 + x.IntN(2), Beast: 1 + x.IntN(9), Sort: pick(x, 1, 5, 9), Eats: x.IntN(40),
			Worth: pick(x, 0, 0, x.IntN(500), x.IntN(20000)), Driver: pick(x, 0, 1+x.IntN(3)), Day: day, Known: known, Until: randomUntil(x, known)})
	}
	for i := range x.IntN(9) {
		p.Notes = append(p.Notes, randomNote(x, p, 2*i+1+x.IntN(2)))
	}
	return p
}

// randomNote is one with a Source, mostly of a stay that there is.
func randomNote(x *rand.Rand, p api.Account, source int) api.Note {
	s := api.Held{Source: 99}
	if len(p.Stays) > 0 && x.IntN(9) > 0 {
		s = pick(x, p.Stays...)
	}
	day := max(0, s.Day+randomAge(x)-x.IntN(3))
	known := pick(x, day, day, s.Day+randomAge(x))
	n := api.Note{Source: source, Stay: s.Source, Kind: 1 + x.IntN(3), Day: day, Known: known, Until: randomUntil(x, known)}
	if n.Kind != api.Freed {
		n.Owner = 1 + x.IntN(3)
	}
	return n
}

// randomDay is one on which something may just have become known, or have ended.
func randomDay(x *rand.Rand, p api.Account) int {
	day := randomAge(x)
	if len(p.Stays) > 0 && x.IntN(2) == 0 {
		day += pick(x, p.Stays...).Day
	}
	if len(p.Notes) > 0 && x.IntN(3) == 0 {
		n := pick(x, p.Notes...)
		day = pick(x, n.Day, n.Known, n.Until) + x.IntN(2)
	}
	return day
}

// randomDays is a list of rising days.
func randomDays(x *rand.Rand, p api.Account) []int {
	var l []int
	for range x.IntN(api.MaxDays + 1) {
		l = append(l, randomDay(x, p))
	}
	slices.Sort(l)
	return slices.Compact(l)
}

// each has random accounts, and a day of each.
func each(times int, ask func(x *rand.Rand, p api.Account, known int)) {
	x := newRandom()
	for range times {
		p := randomAccount(x)
		ask(x, p, randomDay(x, p))
	}
}

// eachStay has the stays that count of random accounts.
func eachStay(times int, ask func(x *rand.Rand, p api.Account, s api.Held, known int)) {
	each(times, func(x *rand.Rand, p api.Account, known int) {
		for _, s := range p.Stays {
			if isTold(s.Known, s.Until, known) {
				ask(x, p, s, known)
			}
		}
	})
}

// one has a result and its error in one text.
func one[T any](x T, e api.Errno) string { return fmt.Sprint(x, " ", int(e)) }

func want[T any](t *testing.T, name string, got T, e api.Errno, wanted T, wantedE api.Errno) {
	t.Helper()
	if g, w := one(got, e), one(wanted, wantedE); g != w {
		t.Errorf("%s: %s; want %s", name, g, w)
	}
}

func wantErrno(t *testing.T, name string, e, wanted api.Errno) {
	t.Helper()
	if e != wanted {
		t.Errorf("%s: %d; want %d", name, e, wanted)
	}
}

// lotOf, chargeOf, dueOf and postsOf are Lot, Charged, Dues and Posts of what has no error.
func lotOf(t *testing.T, p api.Account, stay, known int) api.Lot {
	t.Helper()
	l, e := fine.Lot(p, stay, known)
	wantErrno(t, fmt.Sprint("Lot ", p, stay, known), e, api.OK)
	return l
}

func chargeOf(t *testing.T, p api.Account, stay, known int) api.Charge {
	t.Helper()
	c, e := fine.Charged(p, stay, known)
	wantErrno(t, fmt.Sprint("Charged ", p, stay, known), e, api.OK)
	return c
}

func dueOf(t *testing.T, p api.Account, stay, known int) api.Due {
	t.Helper()
	d, e := fine.Dues(p, stay, known)
	wantErrno(t, fmt.Sprint("Dues ", p, stay, known), e, api.OK)
	return d
}

func postsOf(t *testing.T, p api.Account, days []int) []api.Posting {
	t.Helper()
	l, e := fine.Posts(p, days)
	wantErrno(t, fmt.Sprint("Posts ", p, days), e, api.OK)
	return l
}
