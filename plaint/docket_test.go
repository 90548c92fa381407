package plaint_test

import (
	"fmt"
	"math/rand/v2"
	"slices"
	"testing"

	"pinfold/api"
	"pinfold/plaint"
)

// P7.1: Dates are the days from which on plaints are entered, and those on which findings become known.
func TestDates(t *testing.T) {
	days, e := plaint.Dates(example())
	want(t, "Dates", days, e, []int{2, 4, 6, 8, 12}, api.OK)
	days, e = plaint.Dates(api.Case{})
	want(t, "Dates", days, e, nil, api.OK)
	each(300, func(_ *rand.Rand, c api.Case, _ int) {
		var wanted []int
		for day := range lastDay + 1 {
			if slices.ContainsFunc(c.Plaints, func(p api.Plaint) bool { return max(p.Day, p.Known) == day }) ||
				slices.ContainsFunc(c.Findings, func(f api.Finding) bool { return f.Known == day }) {
				wanted = append(wanted, day)
			}
		}
		days, e := plaint.Dates(c)
		want(t, fmt.Sprint("Dates ", c), days, e, wanted, api.OK)
	})
}

// P7.1: which plaints of random cases are allowed and refused is as the chapter tells it.
func TestAllowed(t *testing.T) {
	allowed, refused := 0, 0
	each(3000, func(_ *rand.Rand, c api.Case, known int) {
		yes, no := retoldAllowed(c, known)
		want(t, fmt.Sprint("Allowed ", c, known), allowedOf(t, c, known), api.OK, plaintIds(yes), api.OK)
		want(t, fmt.Sprint("Refused ", c, known), refusedOf(t, c, known), api.OK, plaintIds(no), api.OK)
		allowed, refused = allowed+len(yes), refused+len(no)
	})
	if allowed < 500 || refused < 500 {
		t.Error("too few plaints are allowed, or refused: ", allowed, refused)
	}
}

// P7.1: a plaint is entered from the later one of its days on; of one day the least Id goes ahead, and otherwise the day.
func TestEntered(t *testing.T) {
	c := api.Case{Sureties: []api.Surety{{Id: 1, Worth: api.Range{Lo: 10, Hi: 99}}}}
	for i, days := range [][2]int{{7, 2}, {3, 7}, {6, 6}} {
		c.Plaints = append(c.Plaints, api.Plaint{Id: i + 1, Owner: 1, Beasts: []int{1}, Claim: api.Range{Hi: 4}, Day: days[0], Known: days[1], Sureties: []int{1}})
	}
	for known, wanted := range map[int][2][]int{5: {}, 6: {{3}}, 7: {{1, 3}, {2}}} {
		want(t, "Allowed", allowedOf(t, c, known), api.OK, wanted[0], api.OK)
		want(t, "Refused", refusedOf(t, c, known), api.OK, wanted[1], api.OK)
	}
}

// P7.1: a lesser plaint may be allowed behind one that is refused; a plaint that needs nothing always is.
func TestRefusedOnesNeedNothing(t *testing.T) {
	c := api.Case{Sureties: []api.Surety{{Id: 4, Worth: api.Range{Lo: 10, Hi: 99}}}}
	for i, claim := range []int{6, 5, 4, 1, 0} {
		c.Plaints = append(c.Plaints, api.Plaint{Id: i + 1, Owner: 1, Beasts: []int{1}, Claim: api.Range{Hi: claim}, Sureties: []int{4}})
	}
	want(t, "Allowed", allowedOf(t, c, 0), api.OK, []int{1, 3, 5}, api.OK)
	want(t, "Refused", refusedOf(t, c, 0), api.OK, []int{2, 4}, api.OK)
	want(t, "Pledge", pledgeOf(t, c, 0), api.OK, [][]int{{6}, {4}, {0}}, api.OK)
	l, e := plaint.Short(c, 0)
	want(t, "Short", l, e, []int{1, 2}, api.OK)
}

// P7.1: Open, Free and Found are as the chapter tells it.
func TestOpen(t *testing.T) {
	each(2000, func(_ *rand.Rand, c api.Case, known int) {
		yes, no := retoldAllowed(c, known)
		var open []api.Plaint
		free := map[int]bool{}
		for _, p := range yes {
			if _, ok := retoldFinding(c, p.Id, known); !ok {
				open = append(open, p)
				for _, b := range p.Beasts {
					free[b] = true
				}
			}
		}
		l, e := plaint.Open(c, known)
		want(t, fmt.Sprint("Open ", c, known), l, e, plaintIds(open), api.OK)
		var beasts []int
		for b := range 10 {
			if free[b] {
				beasts = append(beasts, b)
			}
		}
		l, e = plaint.Free(c, known)
		want(t, fmt.Sprint("Free ", c, known), l, e, beasts, api.OK)
		for _, p := range append(yes, no...) {
			f, ok := retoldFinding(c, p.Id, known)
			n, e := plaint.Found(c, p.Id, known)
			wantedE := api.ErrNone
			if ok {
				wantedE = api.OK
			}
			want(t, fmt.Sprint("Found ", c, p.Id, known), n, e, f.Amount, wantedE)
		}
	})
}

// P7.1: the finding in force is that of the greatest Day, of one Day that of the greatest Source; what is known when says nothing.
func TestInForce(t *testing.T) {
	c := example()
	c.Findings = []api.Finding{
		{Source: 1, Plaint: 5, Day: 9, Known: 10, Amount: 1},
		{Source: 2, Plaint: 6, Day: 15, Known: 8, Amount: 2},
		{Source: 3, Plaint: 5, Day: 8, Known: 12, Amount: 3},
		{Source: 4, Plaint: 5, Day: 9, Known: 9, Amount: 4},
		{Source: 5, Plaint: 5, Day: 0, Known: 8, Amount: 0},
		{Source: 6, Plaint: 5, Day: 20, Known: 13, Amount: 6},
	}
	for known, wanted := range map[int]int{8: 0, 9: 4, 10: 4, 12: 4, 13: 6} {
		n, e := plaint.Found(c, 5, known)
		want(t, fmt.Sprint("Found on ", known), n, e, wanted, api.OK)
	}
	n, e := plaint.Found(c, 5, 7)
	want(t, "Found on 7", n, e, 0, api.ErrNone)
	n, e = plaint.Found(c, 6, 8)
	want(t, "Found of 6", n, e, 2, api.OK)
}

// P7.1: a finding that is known ahead of its plaint counts from when that is entered; one of a refused plaint is found, and nothing is owed.
func TestFoundOfOthers(t *testing.T) {
	c := example()
	c.Findings = []api.Finding{{Source: 1, Plaint: 6, Day: 1, Known: 1, Amount: 7, Pays: 2}, {Source: 2, Plaint: 9, Day: 6, Known: 6, Amount: 8, Pays: 8}}
	n, e := plaint.Found(c, 6, 3)
	want(t, "Found", n, e, 0, api.ErrNone)
	n, e = plaint.Found(c, 6, 4)
	want(t, "Found", n, e, 7, api.OK)
	n, e = plaint.Found(c, 9, 6)
	want(t, "Found", n, e, 8, api.OK)
	want(t, "Owed", owedOf(t, c, 9, 0, 6), api.OK, 0, api.OK)
	want(t, "Levies", leviesOf(t, c, 9), api.OK, levies([][4]int{{4, 6, 0, 2}, {4, 6, 2, 5}}), api.OK)
	for known, wanted := range map[int][]int{3: nil, 4: {6}} {
		l, e := plaint.Moved(c, 1, known)
		want(t, "Moved", l, e, wanted, api.OK)
	}
	l, e := plaint.Moved(c, 2, 6)
	want(t, "Moved", l, e, []int{9}, api.OK)
}
