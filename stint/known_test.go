package stint_test

import (
	"math/rand/v2"
	"slices"
	"testing"

	"pinfold/api"
	"pinfold/stint"
)

// freeItem is an item, anywhere among the others, that no deed has or names.
func freeItem(x *rand.Rand, c api.Common, manor, from int) api.Item {
	at := api.Item{Manor: manor, No: from + x.IntN(60)}
	for slices.ContainsFunc(c.Deeds, func(d api.Deed) bool { return d.At == at || d.Of == at && d.Kind == api.DeWithdraw }) {
		at.No++
	}
	return at
}

// doneOn is a deed on another day.
func doneOn(x *rand.Rand, d api.Deed, day int) api.Deed {
	d.Day = day
	if d.Kind == api.DeLet || d.Kind == api.DeOpen || d.Kind == api.DeClose {
		d.Until = day + x.IntN(5)
	}
	return d
}

// with adds deeds to a common.
func with(t *testing.T, c api.Common, l ...api.Deed) api.Common {
	t.Helper()
	c, e := stint.Join(c, l)
	wantErrno(t, e, api.OK)
	return c
}

// wantSame compares all that is told of two commons, also of herds.
func wantSame(t *testing.T, name string, a, b api.Common, w api.When) {
	t.Helper()
	if told(a, w) != told(b, w) {
		t.Fatal(name, a.Deeds, b.Deeds, w)
	}
	for owner := range someOwners {
		n, e := stint.Most(a, 1+owner, 1, 3, w)
		m, f := stint.Most(b, 1+owner, 1, 3, w)
		want(t, name, n, e, m, f)
		n, e = stint.Over(a, 1+owner, 1, api.Herd{3: 4}, w)
		m, f = stint.Over(b, 1+owner, 1, api.Herd{3: 4}, w)
		want(t, name, n, e, m, f)
	}
}

// P2.3: deeds that become known later change nothing; nor do deeds that are done later.
func TestLater(t *testing.T) {
	x := newRandom()
	for range 400 {
		c := randomCommon(x)
		w := randomWhen(x)
		d := randomDeed(x)
		d.At = freeItem(x, c, x.IntN(2), 0)
		unknown := d
		unknown.Known = w.Known + 1 + x.IntN(3)
		more := with(t, c, unknown)
		wantSame(t, "known later", c, more, w)
		void, e := stint.Void(c, w.Known)
		voidOfMore, f := stint.Void(more, w.Known)
		want(t, "Void", voidOfMore, f, void, e)
		wantSame(t, "done later", c, with(t, c, doneOn(x, d, w.Day+1+x.IntN(3))), w)
		back := api.Deed{Of: c.Deeds[x.IntN(len(c.Deeds))].At, Known: w.Known + 1}
		back.At = freeItem(x, c, back.Of.Manor, back.Of.No+1)
		wantSame(t, "withdrawn later", c, with(t, c, back), w)
	}
}

// P2.3: a deed that is withdrawn changes nothing, with its withdrawal, as long as nothing else names one of both.
func TestWithdrawn(t *testing.T) {
	x := newRandom()
	changes := 0
	for range 400 {
		c := randomCommon(x)
		d := randomDeed(x)
		d.At = freeItem(x, c, x.IntN(2), 0)
		back := api.Deed{Of: d.At, Known: x.IntN(someDays)}
		back.At = freeItem(x, c, d.At.Manor, d.At.No+1)
		more := with(t, c, d, back)
		w := api.When{Day: x.IntN(someDays), Known: back.Known + x.IntN(5)}
		wantSame(t, "withdrawn", c, more, w)
		w.Known = back.Known - 1
		if back.Known > 0 && told(c, w) != told(more, w) {
			changes++
		}
	}
	if changes < 20 {
		t.Error("few deeds did something ahead of their withdrawals", changes)
	}
}
