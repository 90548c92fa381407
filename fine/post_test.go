package fine_test

import (
	"fmt"
	"math/rand/v2"
	"slices"
	"testing"

	"pinfold/api"
	"pinfold/fine"
)

// P6.1: the postings of random accounts are as the chapter tells it.
func TestPosts(t *testing.T) {
	each(1500, func(x *rand.Rand, p api.Account, _ int) {
		days := randomDays(x, p)
		wanted := retoldPosts(p, days)
		got := postsOf(t, p, days)
		want(t, fmt.Sprint("Posts ", p, days), got, api.OK, wanted, api.OK)
		wantErrno(t, "CheckPosts", fine.CheckPosts(p, days, wanted), api.OK)
	})
}

// P6.1: postings that are not just those of the days are refused.
func TestWrongPosts(t *testing.T) {
	each(100, func(x *rand.Rand, p api.Account, _ int) {
		days := randomDays(x, p)
		for _, l := range wrongPosts(retoldPosts(p, days)) {
			wantErrno(t, fmt.Sprint("CheckPosts ", p, days, l), fine.CheckPosts(p, days, l), api.ErrPosted)
		}
	})
}

// wrongPosts are postings with one left out, doubled, out of place, or with another number; one more than none.
func wrongPosts(l []api.Posting) [][]api.Posting {
	all := [][]api.Posting{append(slices.Clone(l), api.Posting{})}
	for i, x := range l {
		all = append(all, slices.Delete(slices.Clone(l), i, i+1), slices.Insert(slices.Clone(l), i, x))
		if i > 0 {
			swapped := slices.Clone(l)
			swapped[i-1], swapped[i] = x, l[i-1]
			all = append(all, swapped)
		}
		for _, of := range []func(x *api.Posting) *int{
			func(x *api.Posting) *int { return &x.Day }, func(x *api.Posting) *int { return &x.Stay },
			func(x *api.Posting) *int { return &x.From }, func(x *api.Posting) *int { return &x.To },
			func(x *api.Posting) *int { return &x.Amount },
		} {
			other := slices.Clone(l)
			*of(&other[i])++
			all = append(all, other)
		}
	}
	return all
}

// P6.1: postings of a beast that is sold, after its owner was to pay for it, and of a stay that counts no longer.
func TestPostsOfABuyer(t *testing.T) {
	p := noted(api.Note{Kind: api.Claimed, Owner: 3, Day: 10, Known: 10})
	p.Stays[0].Until = 70
	for _, c := range []struct {
		days []int
		want [][5]int
	}{
		{nil, nil},
		{[]int{9}, nil},
		{[]int{58, 59}, [][5]int{{58, 1, 5, 0, 252}, {58, 1, 5, 1, 167}, {58, 1, 5, 11, 83},
			{59, 1, 2, 0, 251}, {59, 1, 5, 0, -252}, {59, 1, 2, 1, 166}, {59, 1, 5, 1, -167}, {59, 1, 2, 11, 83}, {59, 1, 5, 11, -83}}},
		{[]int{59, 69, 70}, [][5]int{{59, 1, 2, 0, 251}, {59, 1, 2, 1, 166}, {59, 1, 2, 11, 83}, {70, 1, 2, 0, -251}, {70, 1, 2, 1, -166}, {70, 1, 2, 11, -83}}},
		{[]int{9, 11, 12}, [][5]int{{11, 1, 5, 0, 17}, {11, 1, 5, 1, 10}, {11, 1, 5, 11, 5}, {12, 1, 5, 0, 4}, {12, 1, 5, 1, 4}, {12, 1, 5, 11, 2}}},
	} {
		want(t, fmt.Sprint("Posts ", c.days), postsOf(t, p, c.days), api.OK, postings(c.want), api.OK)
	}
}

// P6.1: who drove his own beast in is not posted as paying himself, but the others are paid without his share.
func TestPostsOfADriver(t *testing.T) {
	p := example()
	p.Stays[0].Driver = 3
	want(t, "Dues", dueOf(t, p, 1, 20), api.OK, api.Due{Payer: 5, Hayward: 24, Driver: 12, Lord: 38}, api.OK)
	want(t, "Posts", postsOf(t, p, []int{20}), api.OK, postings([][5]int{{20, 1, 5, 0, 38}, {20, 1, 5, 1, 24}}), api.OK)
	for party, wanted := range map[int]int{0: 38, 1: 24, 5: -62, 2: 0} {
		n, e := fine.Balance(p, []int{20}, party)
		want(t, "Balance", n, e, wanted, api.OK)
	}
	n, e := fine.Owed(p, 3, 20)
	want(t, "Owed", n, e, 74, api.OK)
}

// P6.1: a driver of one stay who pays for another one, and postings of stays in their order.
func TestPostsOfTwoStays(t *testing.T) {
	p := example()
	p.Stays = append(p.Stays, api.Held{Source: 5, Beast: 1, Sort: 1, Driver: 3, Day: 12, Known: 12})
	p.Notes = append(p.Notes, api.Note{Source: 8, Stay: 5, Kind: api.Judged, Owner: 9, Day: 12, Known: 12})
	want(t, "Posts", postsOf(t, p, []int{12, 15}), api.OK, postings([][5]int{
		{12, 5, 11, 0, 6}, {12, 5, 11, 1, 4}, {12, 5, 11, 5, 2}, {15, 1, 5, 0, 38}, {15, 1, 5, 1, 24}, {15, 1, 5, 11, 12},
	}), api.OK)
	for party, wanted := range map[int]int{0: 44, 1: 28, 2: 0, 5: 2 - 74, 11: 12 - 12, 101: 0} {
		n, e := fine.Balance(p, []int{12, 15}, party)
		want(t, fmt.Sprint("Balance ", party), n, e, wanted, api.OK)
	}
}

// P6.1: a balance is what a party got by the postings, less what it paid.
func TestBalance(t *testing.T) {
	each(500, func(x *rand.Rand, p api.Account, _ int) {
		days := randomDays(x, p)
		got := map[int]int{}
		for _, x := range retoldPosts(p, days) {
			got[x.To] += x.Amount
			got[x.From] -= x.Amount
		}
		for _, party := range []int{0, 1, 2, 3, 4, 5, 6, 101} {
			n, e := fine.Balance(p, days, party)
			want(t, fmt.Sprint("Balance ", p, days, party), n, e, got[party], api.OK)
		}
	})
}

// P6.1: what an owner owes is what he pays by all dues; the buyer is no owner.
func TestOwed(t *testing.T) {
	each(1500, func(_ *rand.Rand, p api.Account, known int) {
		owed := map[int]int{}
		for _, s := range p.Stays {
			if isTold(s.Known, s.Until, known) {
				owed[retoldDue(p, s, known).Payer-2] += toPay(p, s, known)
			}
		}
		for _, owner := range []int{1, 2, 3, 4, 99} {
			n, e := fine.Owed(p, owner, known)
			want(t, fmt.Sprint("Owed ", p, owner, known), n, e, owed[owner], api.OK)
		}
	})
}

// P6.1: lists of days, at their limits and one beyond them.
func TestDays(t *testing.T) {
	p := example()
	full := []int{0, 1, 2, 3, 4, 5, 6, 7, 8, 9, 20, api.MaxDay}
	for _, days := range [][]int{nil, {}, {0}, {api.MaxDay}, {0, api.MaxDay}, full} {
		_, e := fine.Posts(p, days)
		wantErrno(t, fmt.Sprint("Posts ", days), e, api.OK)
	}
	for _, days := range badDays() {
		l, e := fine.Posts(p, days)
		want(t, fmt.Sprint("Posts ", days), l, e, nil, api.ErrDays)
	}
}
