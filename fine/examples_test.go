package fine_test

import (
	"testing"

	"pinfold/api"
	"pinfold/fine"
)

// P6.1: the rows of the chapter's examples on what is known of a stay, and what it costs.
func TestExamplesOfALot(t *testing.T) {
	p := example()
	for _, c := range []struct {
		known  int
		lot    api.Lot
		charge api.Charge
	}{
		{13, api.Lot{Stop: -1, Day: -1}, api.Charge{Head: 12, Feed: 40, Fine: 16}},
		{14, api.Lot{Owner: 3, Stop: 13, Day: -1}, api.Charge{Head: 12, Feed: 50, Fine: 12}},
		{20, api.Lot{Owner: 3, Stop: 13, End: api.Released, Day: 15}, api.Charge{Head: 12, Feed: 50, Fine: 12}},
	} {
		want(t, "Lot", lotOf(t, p, 1, c.known), api.OK, c.lot, api.OK)
		want(t, "Charged", chargeOf(t, p, 1, c.known), api.OK, c.charge, api.OK)
	}
	n, e := fine.Fed(p, 1, 20)
	want(t, "Fed", n, e, 5, api.OK)
	p.Notes = nil
	want(t, "Lot", lotOf(t, p, 1, 100), api.OK, api.Lot{Stop: -1, End: api.Market, Day: 59}, api.OK)
	n, e = fine.Fed(p, 1, 100)
	want(t, "Fed", n, e, 50, api.OK)
}

// P6.1: the rows of the chapter's examples on what is due.
func TestExamplesOfDues(t *testing.T) {
	p := example()
	want(t, "Dues", dueOf(t, p, 1, 13), api.OK, api.Due{Payer: -1}, api.OK)
	want(t, "Dues", dueOf(t, p, 1, 20), api.OK, api.Due{Payer: 5, Hayward: 24, Driver: 12, Lord: 38}, api.OK)
	n, e := fine.Owed(p, 3, 20)
	want(t, "Owed", n, e, 74, api.OK)
	l, e := fine.Inside(p, 14)
	want(t, "Inside", l, e, []int{1}, api.OK)
	l, e = fine.Ended(p, api.Released, 15)
	want(t, "Ended", l, e, []int{1}, api.OK)
	l, e = fine.Moved(p, 2, 20)
	want(t, "Moved", l, e, []int{1}, api.OK)
}

// P6.1: the rows of the chapter's examples on postings.
func TestExamplesOfPosts(t *testing.T) {
	for _, c := range []struct {
		p    api.Account
		days []int
		want []api.Posting
	}{
		{example(), []int{13, 14, 20}, postings([][5]int{{14, 1, 5, 0, 38}, {14, 1, 5, 1, 24}, {14, 1, 5, 11, 12}})},
		{judged(), []int{15, 18}, postings([][5]int{{15, 1, 5, 0, 38}, {15, 1, 5, 1, 24}, {15, 1, 5, 11, 12},
			{18, 1, 5, 0, -38}, {18, 1, 8, 0, 38}, {18, 1, 5, 1, -24}, {18, 1, 8, 1, 24}, {18, 1, 5, 11, -12}, {18, 1, 8, 11, 12}})},
	} {
		want(t, "Posts", postsOf(t, c.p, c.days), api.OK, c.want, api.OK)
		wantErrno(t, "CheckPosts", fine.CheckPosts(c.p, c.days, c.want), api.OK)
	}
}

// P6.1: the example of the document that holds a beast.
func TestExampleOfTheDocument(t *testing.T) {
	p := api.Account{
		Tariffs: []api.Tariff{{Feed: 5, Hayward: 20, Driver: 10, Head: api.Rates{1: 12}, Daily: api.Rates{1: 4}}},
		Stays:   []api.Held{{Source: 7, Beast: 8, Sort: 1, Eats: 20, Worth: 500, Driver: 9, Day: 10, Known: 10}},
	}
	want(t, "Charged", chargeOf(t, p, 7, 13), api.OK, api.Charge{Head: 12, Feed: 40, Fine: 16}, api.OK)
	p, e := fine.Noted(p, api.Note{Source: 8, Stay: 7, Kind: api.Claimed, Owner: 5, Day: 13, Known: 14})
	wantErrno(t, "Noted", e, api.OK)
	p, e = fine.Noted(p, api.Note{Source: 9, Stay: 7, Kind: api.Freed, Day: 15, Known: 15})
	wantErrno(t, "Noted", e, api.OK)
	want(t, "Dues", dueOf(t, p, 7, 20), api.OK, api.Due{Payer: 7, Hayward: 24, Driver: 12, Lord: 38}, api.OK)
}
