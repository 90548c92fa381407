package stint_test

import (
	"slices"
	"testing"

	"pinfold/api"
	"pinfold/stint"
)

// given is the sum of the Parts of the DeRights on a pasture that are not void.
func given(c api.Common, pasture int, w api.When) int {
	void, _ := stint.Void(c, w.Known)
	standing, _ := stint.Standing(c, w.Known)
	n := 0
	for _, i := range standing {
		x := c.Deeds[i]
		if x.Kind == api.DeRight && x.Pasture == pasture && x.Day <= w.Day && !slices.Contains(void, x.At) {
			n += x.Parts
		}
	}
	return n
}

// P2.2: rights are conserved, by all that may be done with them, and so is what may be used.
func TestConserved(t *testing.T) {
	x := newRandom()
	let, joined := 0, 0
	for range 1000 {
		c := randomCommon(x)
		w := randomWhen(x)
		holdings, _ := stint.Holdings(c, w)
		if len(holdings) < someHoldings {
			joined++
		}
		for _, p := range c.Pastures {
			rights, uses := 0, 0
			for _, holding := range holdings {
				right, e := stint.Right(c, holding, p.Id, w)
				use, f := stint.Use(c, holding, p.Id, w)
				if right < 0 || use < 0 || e != api.OK || f != api.OK {
					t.Fatal(c.Deeds, w, holding, right, use, e, f)
				}
				rights += right
				uses += use
				if right != use {
					let++
				}
			}
			total, e := stint.Total(c, p.Id, w)
			if wanted := given(c, p.Id, w); total != wanted || rights != wanted || uses != wanted || e != api.OK {
				t.Fatal(c.Deeds, w, total, rights, uses, wanted, e)
			}
		}
	}
	if let < 100 || joined < 100 {
		t.Error("few were let or joined", let, joined)
	}
}

// P2.2: a split, a joining, a letting or a sale leaves the Total as it is, also where it is void.
func TestTotalStays(t *testing.T) {
	x := newRandom()
	for range 300 {
		c := randomCommon(x)
		w := randomWhen(x)
		d := randomDeed(x)
		if d.Kind != api.DeSplit && d.Kind != api.DeJoin && d.Kind != api.DeLet && d.Kind != api.DeOwner {
			continue
		}
		d = doneOn(x, d, w.Day)
		d.Known = w.Known
		d.At = api.Item{Manor: 5, No: 9999}
		more := with(t, c, d)
		for _, p := range c.Pastures {
			before, e := stint.Total(c, p.Id, w)
			after, f := stint.Total(more, p.Id, w)
			want(t, "Total", after, f, before, e)
		}
	}
}

// P2.6: on the day behind the Until of all lettings each holding may use its right.
func TestLettingsEnd(t *testing.T) {
	x := newRandom()
	still := 0
	for range 400 {
		c := randomCommon(x)
		end := -1
		for _, d := range c.Deeds {
			if d.Kind == api.DeLet {
				end = max(end, d.Until)
			}
		}
		for _, w := range []api.When{{Day: end + 1, Known: someDays}, {Day: end + 1, Known: x.IntN(someDays)}, {Day: max(end, 0), Known: someDays}} {
			holdings, _ := stint.Holdings(c, w)
			for _, holding := range holdings {
				right, e := stint.Right(c, holding, 1, w)
				use, f := stint.Use(c, holding, 1, w)
				if w.Day > end {
					want(t, "Use", use, f, right, e)
				} else if use != right {
					still++
				}
			}
		}
	}
	if still < 50 {
		t.Error("few lettings lasted up to their Until", still)
	}
}

// P2.7: a joining of two holdings of one owner, or a split between them, leaves the owner what may be used.
func TestJoinedHoldings(t *testing.T) {
	x := newRandom()
	joins, splits := 0, 0
	for range 1000 {
		w := randomWhen(x)
		c := notKnownOn(randomCommon(x), w.Known+1)
		owner := 1 + x.IntN(someOwners)
		l, e := stint.Owned(c, owner, w)
		wantErrno(t, e, api.OK)
		if len(l) < 2 {
			continue
		}
		x.Shuffle(len(l), func(i, j int) { l[i], l[j] = l[j], l[i] })
		for _, d := range []api.Deed{join(l[0], l[1], w.Day), split(l[0], l[1], 1, 1+x.IntN(100), w.Day)} {
			d.Known = w.Known + 1
			d.At = api.Item{Manor: 5}
			more := with(t, c, d)
			changed, e := stint.Changed(more, w.Day, w.Known, w.Known+1)
			want(t, "Changed", changed, e, nil, api.OK)
			void, _ := stint.Void(more, w.Known+1)
			switch {
			case slices.Contains(void, d.At):
			case d.Kind == api.DeJoin:
				joins++
			default:
				splits++
			}
		}
	}
	if joins < 30 || splits < 30 {
		t.Error("few were not void", joins, splits)
	}
}

// notKnownOn leaves out the deeds that become known on a day.
func notKnownOn(c api.Common, day int) api.Common {
	c.Deeds = slices.DeleteFunc(c.Deeds, func(d api.Deed) bool { return d.Known == day })
	return c
}
