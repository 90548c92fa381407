package stint_test

import (
	"fmt"
	"math/rand/v2"
	"slices"
	"strings"
	"testing"

	"pinfold/api"
	"pinfold/stint"
)

// Deeds that are known on the day on which they are done; common gives them their items.

func hold(holding, owner, day int) api.Deed {
	return api.Deed{Kind: api.DeHold, Holding: holding, Owner: owner, Day: day, Known: day}
}

func right(holding, pasture, parts, day int) api.Deed {
	return api.Deed{Kind: api.DeRight, Holding: holding, Pasture: pasture, Parts: parts, Day: day, Known: day}
}

func sell(holding, owner, day int) api.Deed {
	return api.Deed{Kind: api.DeOwner, Holding: holding, Owner: owner, Day: day, Known: day}
}

func split(holding, to, pasture, parts, day int) api.Deed {
	return api.Deed{Kind: api.DeSplit, Holding: holding, To: to, Pasture: pasture, Parts: parts, Day: day, Known: day}
}

func join(holding, to, day int) api.Deed {
	return api.Deed{Kind: api.DeJoin, Holding: holding, To: to, Day: day, Known: day}
}

func let(holding, to, pasture, parts, day, until int) api.Deed {
	return api.Deed{Kind: api.DeLet, Holding: holding, To: to, Pasture: pasture, Parts: parts, Day: day, Until: until, Known: day}
}

func opened(pasture, day, until int) api.Deed {
	return api.Deed{Kind: api.DeOpen, Pasture: pasture, Day: day, Until: until, Known: day}
}

func closed(pasture, day, until int) api.Deed {
	return api.Deed{Kind: api.DeClose, Pasture: pasture, Day: day, Until: until, Known: day}
}

func withdraw(no, known int) api.Deed {
	return api.Deed{Kind: api.DeWithdraw, Of: api.Item{No: no}, Known: known}
}

// common has the pastures and byelaws of the chapter's examples, and the deeds as the manor 0 wrote them.
func common(deeds ...api.Deed) api.Common {
	c := api.Common{
		Pastures: []api.Pasture{{Id: 1, Season: api.Range{Lo: 90, Hi: 270}}, {Id: 2, Season: api.Range{Lo: 300, Hi: 60}}},
		Byelaws: []api.Byelaw{
			{Source: 70, Pasture: 1, Parts: [10]int{1: 60, 3: 12}},
			{Source: 71, Pasture: 1, From: 360, Parts: [10]int{1: 60, 3: 20}},
		},
		Deeds: slices.Clone(deeds),
	}
	for i := range c.Deeds {
		c.Deeds[i].At = api.Item{No: i}
	}
	return c
}

// example is the common of the chapter's examples.
func example() api.Common {
	return common(
		hold(1, 5, 1),
		hold(2, 6, 1),
		right(1, 1, 300, 2),
		split(1, 2, 1, 60, 100),
		let(1, 2, 1, 120, 110, 200),
		join(2, 1, 150),
		closed(1, 120, 130),
		withdraw(3, 400),
	)
}

// on is a day, as known on it.
func on(day int) api.When { return api.When{Day: day, Known: day} }

func equalCommons(a, b api.Common) bool {
	return slices.Equal(a.Pastures, b.Pastures) && slices.Equal(a.Byelaws, b.Byelaws) && slices.Equal(a.Deeds, b.Deeds)
}

func cloneCommon(c api.Common) api.Common {
	return api.Common{Pastures: slices.Clone(c.Pastures), Byelaws: slices.Clone(c.Byelaws), Deeds: slices.Clone(c.Deeds)}
}

// fullCommon has as much of all as a common may have.
func fullCommon() api.Common {
	var c api.Common
	for i := range api.MaxPastures {
		c.Pastures = append(c.Pastures, api.Pasture{Id: 99 - api.MaxPastures + 1 + i, Season: api.Range{Hi: 359}})
	}
	for i := range api.MaxByelaws {
		c.Byelaws = append(c.Byelaws, api.Byelaw{Source: api.MaxSource, Pasture: 90 + i/4, From: i % 4})
	}
	for i := range api.MaxDeeds {
		x := hold(1+i, 99, 0)
		x.At = api.Item{Manor: i / 10, No: 9990 + i%10}
		c.Deeds = append(c.Deeds, x)
	}
	return c
}

// badCommons are commons that are not valid, one for each way in which they may not be.
func badCommons() []api.Common {
	more := func(change func(c *api.Common)) api.Common {
		c := fullCommon()
		change(&c)
		return c
	}
	return []api.Common{
		more(func(c *api.Common) { c.Pastures = slices.Insert(c.Pastures, 0, api.Pasture{Id: 1}) }),
		more(func(c *api.Common) { c.Byelaws = slices.Insert(c.Byelaws, 0, api.Byelaw{Source: 1, Pasture: 1}) }),
		more(func(c *api.Common) {
			first := hold(1, 1, 1)
			c.Deeds = slices.Insert(c.Deeds, 0, first)
		}),
		more(func(c *api.Common) { c.Pastures[7].Id = 100 }),
		more(func(c *api.Common) { c.Pastures[1].Id = c.Pastures[0].Id }),
		more(func(c *api.Common) { c.Pastures[6], c.Pastures[7] = c.Pastures[7], c.Pastures[6] }),
		more(func(c *api.Common) { c.Byelaws[0].Source = 0 }),
		more(func(c *api.Common) { c.Byelaws[1].From = c.Byelaws[0].From }),
		more(func(c *api.Common) { c.Byelaws[0].From = 2 }),
		more(func(c *api.Common) { c.Byelaws[0].Pasture = 91 }),
		more(func(c *api.Common) { c.Deeds[59].Kind = 9 }),
		more(func(c *api.Common) { c.Deeds[1].At = c.Deeds[0].At }),
		more(func(c *api.Common) { c.Deeds[9], c.Deeds[10] = c.Deeds[10], c.Deeds[9] }),
		more(func(c *api.Common) { c.Deeds[0], c.Deeds[1] = c.Deeds[1], c.Deeds[0] }),
	}
}

func newRandom() *rand.Rand { return rand.New(rand.NewPCG(3, 4)) }

// The ranges of randomCommon: few of all, so that deeds meet.
const (
	someHoldings = 4
	someOwners   = 3
	somePastures = 3 // the last one is none of the common
	someDays     = 30
)

// randomDeed is done, and known, on one of someDays.
func randomDeed(x *rand.Rand) api.Deed {
	holding := 1 + x.IntN(someHoldings)
	to := 1 + (holding+x.IntN(someHoldings-1))%someHoldings
	owner, pasture, parts := 1+x.IntN(someOwners), 1+min(x.IntN(7)/3, somePastures-1), 1+x.IntN(60)
	day := x.IntN(someDays)
	until := day + x.IntN(someDays-day)
	l := []api.Deed{
		hold(holding, owner, day/3),
		right(holding, pasture, 3*parts, day/2),
		sell(holding, owner, day),
		split(holding, to, pasture, parts, day),
		join(holding, to, day),
		let(holding, to, pasture, parts, day, until),
		opened(pasture, day, until),
		closed(pasture, day, until),
	}
	d := l[x.IntN(len(l))]
	if x.IntN(2) == 0 { // half of all deeds are lettings or splits
		d = l[3+2*x.IntN(2)]
	}
	d.Known = x.IntN(someDays)
	return d
}

// randomCommon has the deeds of two manors, of which some are withdrawn.
func randomCommon(x *rand.Rand) api.Common {
	c := common()
	c.Pastures[0].Season.Lo = someDays / 3
	for i := range 1 + x.IntN(40) {
		d := randomDeed(x)
		if i < 2*someHoldings { // most deeds are void without holdings
			d = hold(1+i%someHoldings, 1+x.IntN(someOwners), x.IntN(5))
			if i >= someHoldings {
				d = right(1+i%someHoldings, 1+x.IntN(2), 1+x.IntN(200), x.IntN(10))
			}
		} else if x.IntN(6) == 0 {
			d = withdraw(x.IntN(20), x.IntN(someDays))
		}
		d.At = api.Item{Manor: x.IntN(2), No: i}
		d.Of.Manor = d.At.Manor
		if d.Kind != api.DeWithdraw {
			d.Of = api.Item{}
		}
		if b, e := stint.Add(c, d); e == api.OK {
			c = b
		}
	}
	return c
}

func randomWhen(x *rand.Rand) api.When {
	return api.When{Day: x.IntN(someDays + 3), Known: x.IntN(someDays + 3)}
}

// told is all that is told of a day but by herds.
func told(c api.Common, w api.When) string {
	var b strings.Builder
	holdings, e := stint.Holdings(c, w)
	fmt.Fprintln(&b, holdings, e)
	for owner := range someOwners {
		fmt.Fprintln(&b, one(stint.Owned(c, 1+owner, w)))
	}
	for _, p := range c.Pastures {
		fmt.Fprintln(&b, one(stint.Total(c, p.Id, w)), one(stint.Open(c, p.Id, w)))
		for holding := range someHoldings {
			fmt.Fprintln(&b, one(stint.Owner(c, 1+holding, w)), one(stint.Right(c, 1+holding, p.Id, w)), one(stint.Use(c, 1+holding, p.Id, w)))
		}
	}
	return b.String()
}

// one has a result and its error in one text.
func one[T any](x T, e api.Errno) string { return fmt.Sprint(x, " ", int(e)) }

func want[T any](t *testing.T, name string, got T, e api.Errno, wanted T, wantedE api.Errno) {
	t.Helper()
	if g, w := one(got, e), one(wanted, wantedE); g != w {
		t.Errorf("%s: %s; want %s", name, g, w)
	}
}

func wantCommon(t *testing.T, name string, got api.Common, e api.Errno, wanted api.Common, wantedE api.Errno) {
	t.Helper()
	if !equalCommons(got, wanted) || e != wantedE {
		t.Errorf("%s: %v, %d; want %v, %d", name, got, e, wanted, wantedE)
	}
}
