package march_test

import (
	"fmt"
	"math/rand/v2"
	"slices"
	"testing"

	"pinfold/api"
	"pinfold/march"
)

// A country is six pounds, by their manors, and all riders that ever went out: each of them may come at any time, and again.
type country struct {
	t      *testing.T
	x      *rand.Rand
	pounds []api.Pound
	riders []api.Rider
	beasts int            // 1 to beasts were impounded
	most   int            // no entry is put behind a journal that has so many
	did    map[string]int // how often something was done
}

func newCountry(t *testing.T, x *rand.Rand, most int) *country {
	c := &country{t: t, x: x, most: most, did: map[string]int{}}
	for me := range api.MaxManors {
		p, e := march.New(me)
		wantErrno(t, "New", e, api.OK)
		c.pounds = append(c.pounds, p)
	}
	return c
}

// become is what a pound is now; what was written of it stays.
func (c *country) become(what string, p api.Pound, e api.Errno) {
	c.t.Helper()
	if e != api.OK {
		c.t.Errorf("%s: %d, %v", what, e, c.pounds)
		return
	}
	wantPound(c.t, what, c.pounds[p.Me], p)
	if !slices.Equal(p.Journal, c.pounds[p.Me].Journal) {
		c.did[what]++
	}
	c.pounds[p.Me] = p
}

func (c *country) hasRoom(me int) bool { return len(c.pounds[me].Journal) < c.most }

// hear has a rider come, twice: the second time nothing changes.
func (c *country) hear(r api.Rider) {
	c.t.Helper()
	if !c.hasRoom(r.To) {
		return
	}
	kinds := [...]string{"", "offer", "receipt", "recall", "refused"}
	p, e := march.Hear(c.pounds[r.To], r)
	c.become(kinds[r.Kind], p, e)
	again, e := march.Hear(p, r)
	want(c.t, "Hear again", again, e, p, api.OK)
}

// out are the riders of a pound to all others.
func (c *country) out(me int) []api.Rider {
	c.t.Helper()
	var all []api.Rider
	for to := range api.MaxManors {
		if to != me {
			l, e := march.Out(c.pounds[me], to)
			wantErrno(c.t, "Out", e, api.OK)
			all = append(all, l...)
		}
	}
	return all
}

func (c *country) impound(me int) {
	c.beasts++
	p, e := march.Impound(c.pounds[me], c.beasts)
	c.become("impound", p, e)
}

// moveOne releases or sends a beast that is there, mostly to the next few manors.
func (c *country) moveOne(me int) {
	l := retoldHere(c.pounds[me].Journal)
	if len(l) == 0 {
		return
	}
	beast := pick(c.x, l...)
	if c.x.IntN(8) == 0 {
		p, e := march.Release(c.pounds[me], beast)
		c.become("release", p, e)
		return
	}
	to := pick(c.x, (me+1)%6, (me+1)%6, (me+5)%6, (me+1+c.x.IntN(5))%6)
	p, _, e := march.Send(c.pounds[me], beast, to)
	c.become("send", p, e)
}

func (c *country) call(me int) {
	for _, r := range retoldRides(c.pounds[me].Journal) {
		if !r.Called && c.x.IntN(2) == 0 {
			p, e := march.Call(c.pounds[me], r.No)
			c.become("call", p, e)
			return
		}
	}
}

// step does anything.
func (c *country) step() {
	me := c.x.IntN(api.MaxManors)
	switch kind := c.x.IntN(40); {
	case kind < 1 && c.hasRoom(me):
		c.impound(me)
	case kind < 6 && c.hasRoom(me):
		c.moveOne(me)
	case kind < 10 && c.hasRoom(me):
		c.call(me)
	case kind < 13:
		p, e := march.Crash(c.pounds[me], c.x.IntN(10))
		c.become("crash", p, e)
	case kind < 20:
		p, e := march.Sync(c.pounds[me])
		c.become("sync", p, e)
	case kind < 28:
		c.riders = append(c.riders, c.out(me)...)
	case len(c.riders) > 0:
		// The last ones come more often than those that are very late.
		i := c.x.IntN(len(c.riders))
		if c.x.IntN(3) > 0 {
			i = max(i, len(c.riders)-1-c.x.IntN(12))
		}
		c.hear(c.riders[i])
	}
}

// isSure reports whether the EnPound of a beast is written.
func (c *country) isSure(beast int) bool {
	return slices.ContainsFunc(c.pounds, func(p api.Pound) bool { return slices.Contains(p.Journal[:p.Firm], en(api.EnPound, beast)) })
}

func (c *country) isReleased(beast int) bool {
	return slices.ContainsFunc(c.pounds, func(p api.Pound) bool { return slices.Contains(p.Journal, en(api.EnRelease, beast)) })
}

// check wants each beast to be in one pound, or on one ride, at most; and in just one, if it is sure, and not released.
func (c *country) check() {
	c.t.Helper()
	for beast := 1; beast <= c.beasts; beast++ {
		where, e := march.Where(c.pounds, beast)
		wantErrno(c.t, "Where", e, api.OK)
		riding, e := march.Riding(c.pounds, beast)
		wantErrno(c.t, "Riding", e, api.OK)
		if len(where) > 1 || len(where) == 1 && len(riding) > 0 {
			c.t.Fatal("a beast is in two places: ", beast, where, riding, c.pounds)
		}
		if c.isSure(beast) && !c.isReleased(beast) && len(where)+len(riding) != 1 {
			c.t.Fatal("a beast is lost: ", beast, where, riding, c.pounds)
		}
	}
}

// P9.3, P9.2, P9.5: no beast is ever in two pounds, nor lost, whatever is sent, called back, heard late or twice, and lost by crashes.
func TestOnePound(t *testing.T) {
	x := newRandom()
	did := map[string]int{}
	for range 60 {
		c := newCountry(t, x, 190)
		for i := range 500 {
			c.step()
			if i%2 == 0 {
				c.check()
			}
		}
		for what, n := range c.did {
			did[what] += n
		}
	}
	for _, what := range []string{"impound", "release", "send", "call", "crash", "offer", "receipt", "recall", "refused"} {
		if did[what] < 50 {
			t.Error("too little happens: ", what, did)
		}
	}
}

// onTheirWay is how many rides have not ended.
func (c *country) onTheirWay() int {
	n := 0
	for _, p := range c.pounds {
		rides, e := march.Rides(p)
		wantErrno(c.t, "Rides", e, api.OK)
		n += len(rides)
	}
	return n
}

// round has all pounds sync, and all their riders heard, in any order.
func (c *country) round() {
	c.t.Helper()
	for me, p := range c.pounds {
		p, e := march.Sync(p)
		wantErrno(c.t, "Sync", e, api.OK)
		c.pounds[me] = p
	}
	var l []api.Rider
	for me := range c.pounds {
		l = append(l, c.out(me)...)
	}
	c.x.Shuffle(len(l), func(i, k int) { l[i], l[k] = l[k], l[i] })
	for _, r := range l {
		c.hear(r)
	}
}

// P9.4: if nothing else is done, no ride is on its way behind four rounds; then nothing changes any more, and each beast is in one pound.
func TestItComesToAnEnd(t *testing.T) {
	x := newRandom()
	rounds := map[int]int{}
	for range 300 {
		c := newCountry(t, x, 100)
		for range 100 + x.IntN(300) {
			c.step()
		}
		// From here on no journal is full: each of them has at most so many entries, and only rides that are there end.
		c.most = api.MaxJournal
		n := 0
		for c.onTheirWay() > 0 && n < 5 {
			c.round()
			c.check()
			n++
		}
		rounds[n]++
		if n > 4 {
			t.Fatal("rides do not end: ", c.pounds)
		}
		c.round()
		still := fmt.Sprint(c.pounds)
		c.round()
		if fmt.Sprint(c.pounds) != still {
			t.Error("something changes: ", still, c.pounds)
		}
		for beast := 1; beast <= c.beasts; beast++ {
			where, e := march.Where(c.pounds, beast)
			wantErrno(t, "Where", e, api.OK)
			if c.isSure(beast) && len(where) == 0 && !c.isReleased(beast) {
				t.Error("a beast is lost: ", beast, c.pounds)
			}
		}
	}
	if rounds[1] == 0 || rounds[2] == 0 || rounds[3] == 0 {
		t.Error("too few rides are under way: ", rounds)
	}
}

// P9.4: a beast that goes round by three pounds none of which has heard that its ride has arrived.
func TestRideAllAround(t *testing.T) {
	c := newCountry(t, newRandom(), api.MaxJournal)
	c.impound(0)
	for me := range 3 {
		to := (me + 1) % 3
		p, _, e := march.Send(c.pounds[me], 1, to)
		c.become("send", p, e)
		p, e = march.Sync(p)
		c.become("sync", p, e)
		offers := retoldOut(p, to)
		c.hear(offers[0])
		c.check()
	}
	// The pound 0 cannot take the beast as long as its own ride has it.
	if n := c.onTheirWay(); n != 3 || len(retoldHere(c.pounds[0].Journal)) != 0 {
		t.Error(n, c.pounds)
	}
	for range 4 {
		c.round()
		c.check()
	}
	where, e := march.Where(c.pounds, 1)
	want(t, "Where", where, e, []int{0}, api.OK)
	if n := c.onTheirWay(); n != 0 {
		t.Error(n, c.pounds)
	}
}
