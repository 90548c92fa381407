package fine

import (
	"cmp"
	"slices"

	"pinfold/api"
)

// share is what one party pays another one for a stay.
type share struct{ stay, from, to int }

// receivers are the parties that get something for a stay.
func receivers(s api.Held) []int {
	if s.Driver == 0 {
		return []int{api.Lord, api.Hayward}
	}
	return []int{api.Lord, api.Hayward, partyOf(s.Driver)}
}

// amounts are how much each payer pays each receiver, as known on a day.
func amounts(p api.Account, known int) map[share]int {
	paid := map[share]int{}
	for _, x := range tellAll(p, known) {
		d := x.due()
		got := []int{d.Lord, d.Hayward, d.Driver}
		for i, to := range receivers(x.stay) {
			paid[share{x.stay.Source, d.Payer, to}] = got[i]
		}
	}
	return paid
}

// Posts returns the postings of a list of days.
func Posts(p api.Account, days []int) ([]api.Posting, api.Errno) {
	if e := cmp.Or(Check(p), checkDays(days)); e != api.OK {
		return nil, e
	}
	var l []api.Posting
	var before map[share]int
	for _, day := range days {
		now := amounts(p, day)
		l = append(l, changes(p, day, before, now)...)
		before = now
	}
	return l, api.OK
}

// payers are all parties that pay, rising.
func payers(amounts ...map[share]int) []int {
	var parties []int
	for _, paid := range amounts {
		for key := range paid {
			parties = append(parties, key.from)
		}
	}
	slices.Sort(parties)
	return slices.Compact(parties)
}

// changes are the postings of a day that make what was paid what is to be paid now.
func changes(p api.Account, day int, before, now map[share]int) []api.Posting {
	var l []api.Posting
	all := payers(before, now)
	for _, s := range p.Stays {
		for _, to := range receivers(s) {
			for _, from := range all {
				key := share{s.Source, from, to}
				if amount := now[key] - before[key]; amount != 0 && from != to {
					l = append(l, api.Posting{Day: day, Stay: s.Source, From: from, To: to, Amount: amount})
				}
			}
		}
	}
	return l
}

// CheckPosts reports whether postings are those of a list of days.
func CheckPosts(p api.Account, days []int, l []api.Posting) api.Errno {
	posts, e := Posts(p, days)
	return cmp.Or(e, errorUnless(slices.Equal(posts, l), api.ErrPosted))
}

// Balance is what a party got by postings, less what it paid.
func Balance(p api.Account, days []int, party int) (int, api.Errno) {
	l, e := Posts(p, days)
	if e := cmp.Or(e, checkParty(party)); e != api.OK {
		return 0, e
	}
	n := 0
	for _, x := range l {
		if x.To == party {
			n += x.Amount
		}
		if x.From == party {
			n -= x.Amount
		}
	}
	return n, api.OK
}

// Owed is what an owner is to pay for all stays, as known on a day.
func Owed(p api.Account, owner, known int) (int, api.Errno) {
	if e := cmp.Or(Check(p), checkOwner(owner), checkDay(known)); e != api.OK {
		return 0, e
	}
	n := 0
	for _, x := range tellAll(p, known) {
		if payer, paid := x.payment(); payer == partyOf(owner) {
			n += paid
		}
	}
	return n, api.OK
}
