package fine_test

import (
	"fmt"
	"math/rand/v2"
	"slices"
	"testing"

	"pinfold/api"
	"pinfold/fine"
)

// a flow is what a party pays another one for a stay.
type flow struct{ stay, from, to int }

// flows adds up postings.
func flows(l []api.Posting) map[flow]int {
	sums := map[flow]int{}
	for _, x := range l {
		sums[flow{x.Stay, x.From, x.To}] += x.Amount
	}
	return sums
}

// P6.2: the postings for a stay add up to its due as known on the last day, for each payer and receiver.
func TestPaid(t *testing.T) {
	each(1500, func(x *rand.Rand, p api.Account, _ int) {
		days := randomDays(x, p)
		sums := flows(postsOf(t, p, days))
		for _, s := range p.Stays {
			d := api.Due{Payer: -1}
			if len(days) > 0 && isTold(s.Known, s.Until, days[len(days)-1]) {
				d = dueOf(t, p, s.Source, days[len(days)-1])
			}
			for from := range 6 {
				for to := range 6 {
					if sums[flow{s.Source, from, to}] != gets(d, s, from, to) {
						t.Error(p, days, s.Source, from, to, sums)
					}
				}
			}
		}
	})
}

// P6.2: no Amount is 0, no two postings have one day, stay, From and To, and all balances add up to 0.
func TestPostsAreSeveral(t *testing.T) {
	each(150, func(x *rand.Rand, p api.Account, _ int) {
		days := randomDays(x, p)
		seen := map[api.Posting]bool{}
		for _, posting := range postsOf(t, p, days) {
			if posting.Amount == 0 {
				t.Error(p, days, posting)
			}
			posting.Amount = 0
			if seen[posting] {
				t.Error(p, days, posting)
			}
			seen[posting] = true
		}
		sum := 0
		for party := range 2 + api.MaxOwner + 1 {
			n, e := fine.Balance(p, days, party)
			wantErrno(t, "Balance", e, api.OK)
			sum += n
		}
		if sum != 0 {
			t.Error(p, days, sum)
		}
	})
}

// P6.2: what the lord, the hayward and the driver get is what is paid, and none of them gets less than nothing.
func TestShares(t *testing.T) {
	eachStay(1500, func(_ *rand.Rand, p api.Account, s api.Held, known int) {
		d, c, lot := dueOf(t, p, s.Source, known), chargeOf(t, p, s.Source, known), lotOf(t, p, s.Source, known)
		paid := c.Head + c.Feed + c.Fine
		switch {
		case d.Payer == api.Buyer:
			paid = s.Worth
		case d.Payer == -1:
			paid = 0
		case d.Payer != 2+lot.Owner:
			t.Error(p, s.Source, known, d)
		}
		if d.Lord+d.Hayward+d.Driver != paid || min(d.Lord, d.Hayward, d.Driver) < 0 {
			t.Error(p, s.Source, known, d, paid)
		}
	})
}

// P6.3: the fine is that of the days of feed ahead of Stop.
func TestFineStops(t *testing.T) {
	eachStay(1500, func(_ *rand.Rand, p api.Account, s api.Held, known int) {
		lot := lotOf(t, p, s.Source, known)
		days, e := fine.Fed(p, s.Source, known)
		wantErrno(t, "Fed", e, api.OK)
		sum := 0
		for day := s.Day; day < s.Day+days; day++ {
			if lot.Stop == -1 || day < lot.Stop {
				sum += tariffOn(p, day).Daily[s.Sort]
			}
		}
		if c := chargeOf(t, p, s.Source, known); c.Fine != sum {
			t.Error(p, s.Source, known, c, sum)
		}
	})
}

// P6.3: with one claim more the fine is no greater.
func TestOneClaimMore(t *testing.T) {
	less := 0
	eachStay(3000, func(x *rand.Rand, p api.Account, s api.Held, known int) {
		n := api.Note{Source: 99, Stay: s.Source, Kind: api.Claimed, Owner: 1 + x.IntN(3), Day: s.Day + randomAge(x), Known: x.IntN(known + 1)}
		more, e := fine.Noted(p, n)
		wantErrno(t, "Noted", e, api.OK)
		before, after := chargeOf(t, p, s.Source, known).Fine, chargeOf(t, more, s.Source, known).Fine
		if after > before {
			t.Error(p, n, known, before, after)
		}
		if after < before {
			less++
		}
	})
	if less < 100 {
		t.Error("claims that stop a fine:", less)
	}
}

// P6.3: behind the day of an end nothing more is charged.
func TestNothingBehindTheEnd(t *testing.T) {
	ends := map[int]int{}
	eachStay(3000, func(x *rand.Rand, p api.Account, s api.Held, known int) {
		// Nothing becomes known, or is unknown again, behind the first day: only days pass.
		p.Stays = []api.Held{changed(s, func(s *api.Held) { s.Until = 0 })}
		p.Notes = slices.Clone(notesOn(p, s, known))
		for i := range p.Notes {
			p.Notes[i].Until = 0
		}
		lot := lotOf(t, p, s.Source, known)
		ends[lot.End]++
		later := known + 1 + randomAge(x)
		if lot.End == api.Standing {
			return
		}
		if got := lotOf(t, p, s.Source, later); got != lot {
			t.Error(p, known, later, lot, got)
		}
		if now, then := chargeOf(t, p, s.Source, known), chargeOf(t, p, s.Source, later); now != then {
			t.Error(p, known, later, now, then)
		}
		if now, then := dueOf(t, p, s.Source, known), dueOf(t, p, s.Source, later); now != then {
			t.Error(p, known, later, now, then)
		}
	})
	for end := api.Standing; end <= api.Left; end++ {
		if ends[end] < 20 {
			t.Error("ends of the random stays:", ends)
		}
	}
}

// P6.4: between two days on which the due of a stay is the same its postings add up to nothing.
func TestGivenBackOnce(t *testing.T) {
	same := 0
	each(3000, func(x *rand.Rand, p api.Account, _ int) {
		days := randomDays(x, p)
		if len(days) < 2 {
			return
		}
		first, last := days[0], days[len(days)-1]
		sums := flows(slices.DeleteFunc(postsOf(t, p, days), func(x api.Posting) bool { return x.Day == first }))
		for _, s := range p.Stays {
			if !isTold(s.Known, s.Until, first) || !isTold(s.Known, s.Until, last) || dueOf(t, p, s.Source, first) != dueOf(t, p, s.Source, last) {
				continue
			}
			same++
			for key, sum := range sums {
				if key.stay == s.Source && sum != 0 {
					t.Error(p, days, key, sum)
				}
			}
		}
	})
	if same < 100 {
		t.Error("stays with the same due:", same)
	}
}

// P6.4: what is as known on a day does not depend on what becomes known later.
func TestLaterKnowledge(t *testing.T) {
	eachStay(1500, func(_ *rand.Rand, p api.Account, s api.Held, known int) {
		ahead := cloneAccount(p)
		ahead.Stays = slices.DeleteFunc(ahead.Stays, func(s api.Held) bool { return s.Known > known })
		ahead.Notes = slices.DeleteFunc(ahead.Notes, func(n api.Note) bool { return n.Known > known })
		for i := range ahead.Notes {
			if ahead.Notes[i].Until > known {
				ahead.Notes[i].Until = 0
			}
		}
		if lotOf(t, p, s.Source, known) != lotOf(t, ahead, s.Source, known) || dueOf(t, p, s.Source, known) != dueOf(t, ahead, s.Source, known) {
			t.Error(p, s.Source, known)
		}
		days := []int{known / 2, known}
		if known == 0 {
			days = days[1:]
		}
		want(t, fmt.Sprint("Posts ", p, days), postsOf(t, ahead, days), api.OK, postsOf(t, p, days), api.OK)
	})
}

// P6.4: without a source that moves nothing no due is another one.
func TestMovesNothing(t *testing.T) {
	nothing := 0
	each(1500, func(_ *rand.Rand, p api.Account, known int) {
		for _, n := range p.Notes {
			moved, e := fine.Moved(p, n.Source, known)
			wantErrno(t, "Moved", e, api.OK)
			if len(moved) > 0 {
				continue
			}
			nothing++
			rest := cloneAccount(p)
			rest.Notes = slices.DeleteFunc(rest.Notes, func(m api.Note) bool { return m.Source == n.Source })
			rest.Stays = slices.DeleteFunc(rest.Stays, func(s api.Held) bool { return s.Source == n.Source })
			stays, e := fine.Stays(p, known)
			again, againE := fine.Stays(rest, known)
			want(t, "Stays", again, againE, stays, e)
			for _, stay := range stays {
				want(t, "Dues", dueOf(t, rest, stay, known), api.OK, dueOf(t, p, stay, known), api.OK)
			}
		}
	})
	if nothing < 100 {
		t.Error("sources that move nothing:", nothing)
	}
}

// P6.5: each stay that counts, and has begun, is inside or ended in just one way.
func TestOneEnd(t *testing.T) {
	eachStay(1500, func(_ *rand.Rand, p api.Account, s api.Held, known int) {
		n := 0
		in, e := fine.Inside(p, known)
		wantErrno(t, "Inside", e, api.OK)
		if slices.Contains(in, s.Source) {
			n++
		}
		for way := api.Released; way <= api.Left; way++ {
			l, e := fine.Ended(p, way, known)
			wantErrno(t, "Ended", e, api.OK)
			if slices.Contains(l, s.Source) {
				n++
			}
		}
		if begun := s.Day <= known; begun != (n == 1) || n > 1 {
			t.Error(p, s.Source, known, n)
		}
	})
}

// P6.5: no beast is forfeit whose owner was known within the year, none is held too long, and no buyer pays more than the feed cost.
func TestLimitsOfEnds(t *testing.T) {
	bought := 0
	eachStay(3000, func(_ *rand.Rand, p api.Account, s api.Held, known int) {
		lot, d, c := lotOf(t, p, s.Source, known), dueOf(t, p, s.Source, known), chargeOf(t, p, s.Source, known)
		if lot.End == api.Forfeit && lot.Stop != -1 && lot.Stop <= s.Day+360 {
			t.Error("forfeit", p, s.Source, known, lot)
		}
		if lot.End == api.Standing && known >= s.Day+api.MaxKept || lot.Day > s.Day+api.MaxKept {
			t.Error("held", p, s.Source, known, lot)
		}
		if d.Payer == api.Buyer {
			bought++
			if d.Lord+d.Hayward+d.Driver > c.Feed {
				t.Error("bought", p, s.Source, known, d, c)
			}
		}
	})
	if bought < 50 {
		t.Error("beasts that were sold:", bought)
	}
}

// P6.6: who pays is the owner that the last judgement names; one judgement more for him changes no due.
func TestJudged(t *testing.T) {
	paying := 0
	eachStay(5000, func(x *rand.Rand, p api.Account, s api.Held, known int) {
		d, lot := dueOf(t, p, s.Source, known), lotOf(t, p, s.Source, known)
		if d.Payer <= api.Buyer {
			return
		}
		if l := ofKind(notesOn(p, s, known), api.Judged); len(l) > 0 && d.Payer != 2+ownerOf(l) {
			t.Error(p, s.Source, known, d)
		}
		paying++
		n := api.Note{Source: 99, Stay: s.Source, Kind: api.Judged, Owner: d.Payer - 2, Day: lot.Stop + pick(x, 0, randomAge(x)), Known: x.IntN(known + 1)}
		more, e := fine.Noted(p, n)
		wantErrno(t, "Noted", e, api.OK)
		want(t, fmt.Sprint("Dues ", p, n, known), dueOf(t, more, s.Source, known), api.OK, d, api.OK)
		l, e := fine.Moved(more, 99, known)
		want(t, "Moved", l, e, nil, api.OK)
	})
	if paying < 100 {
		t.Error("owners who pay:", paying)
	}
}
