package stint_test

import (
	"testing"

	"pinfold/api"
	"pinfold/stint"
)

// P2.1: what a herd takes, by the byelaw of the day.
func TestTakes(t *testing.T) {
	c := common()
	most := api.Byelaw{Source: 1, Pasture: 2}
	full := api.Herd{}
	for sort := 1; sort <= api.MaxSort; sort++ {
		most.Parts[sort] = api.MaxParts
		full[sort] = api.MaxHead
	}
	c.Byelaws = append(c.Byelaws, most)
	for _, d := range []struct {
		pasture int
		h       api.Herd
		day     int
		want    int
	}{
		{1, api.Herd{}, 0, 0},
		{1, api.Herd{1: 2, 3: 1}, 0, 132},
		{1, api.Herd{1: 2, 3: 1}, 359, 132},
		{1, api.Herd{1: 2, 3: 1}, 360, 140},
		{1, api.Herd{2: 5, 9: 1000}, 5, 0},
		{2, full, api.MaxDay, 900000000},
		{2, api.Herd{9: 1}, 0, api.MaxParts},
	} {
		got, e := stint.Takes(c, d.pasture, d.h, d.day)
		want(t, "Takes", got, e, d.want, api.OK)
	}
}

// grazed has the holdings 1 and 2 of the owner 5 and 3 of 6; on the pasture 1 they have 100, 50 and 7 parts.
func grazed(more ...api.Deed) api.Common {
	return common(append([]api.Deed{hold(1, 5, 1), hold(2, 5, 1), hold(3, 6, 1),
		right(1, 1, 100, 2), right(2, 1, 50, 2), right(3, 1, 7, 2), right(1, 2, 9, 2)}, more...)...)
}

// P2.1: what an owner may use is of all the owner's holdings together, and nothing where a pasture is closed.
func TestMost(t *testing.T) {
	c := grazed(let(2, 3, 1, 20, 100, 110), sell(2, 6, 150), closed(1, 200, 210), opened(1, 300, 310), right(3, 1, api.MaxParts, 320))
	c.Byelaws[0].Parts = [10]int{1: 10, 2: 75, 4: 1, 5: 100, 6: 151}
	for _, d := range []struct{ owner, sort, day, want int }{
		{5, 1, 95, 15},  // 150 parts
		{5, 2, 95, 2},   // just all of them
		{5, 5, 95, 1},   // some are left
		{5, 6, 95, 0},   // not one beast
		{5, 3, 95, 0},   // may not be there
		{5, 4, 95, 150}, // a part for each
		{6, 1, 95, 0},   // 7 parts
		{7, 4, 95, 0},   // no holding
		{5, 1, 100, 13}, // let
		{6, 1, 110, 2},
		{6, 4, 111, 7},
		{5, 4, 150, 100}, // sold
		{6, 4, 150, 57},
		{5, 4, 205, 0}, // closed
		{5, 3, 205, 0},
		{5, 4, 299, 0}, // out of season
		{5, 4, 300, 100},
		{6, 4, 310, 57},
	} {
		got, e := stint.Most(c, d.owner, 1, d.sort, on(d.day))
		want(t, "Most "+one(d, 0), got, e, d.want, api.OK)
	}
	c.Byelaws[1].Parts[4] = 1
	got, e := stint.Most(c, 6, 1, 4, on(460))
	want(t, "MaxHead", got, e, api.MaxHead, api.OK)
	c.Byelaws[1].Parts[4] = 100
	got, e = stint.Most(c, 6, 1, 4, on(460))
	want(t, "just MaxHead", got, e, 1000, api.OK)
	c.Byelaws[1].Parts[4] = 101
	got, e = stint.Most(c, 6, 1, 4, on(460))
	want(t, "below MaxHead", got, e, 990, api.OK)
}

// P2.1: Over, and where it counts the beasts that may not be there.
func TestOver(t *testing.T) {
	c := grazed(let(2, 3, 1, 20, 100, 110), closed(1, 200, 210))
	c.Byelaws[0].Parts = [10]int{1: 10, 2: 75, 4: 1}
	for _, d := range []struct {
		owner int
		h     api.Herd
		day   int
		want  int
	}{
		{5, api.Herd{}, 95, 0},
		{5, api.Herd{1: 15}, 95, 0},
		{5, api.Herd{1: 14, 4: 10}, 95, 0},
		{5, api.Herd{1: 14, 4: 11}, 95, 1},
		{5, api.Herd{1: 1, 2: 2, 4: 1}, 95, 11},
		{5, api.Herd{1: 15}, 100, 20},
		{6, api.Herd{4: 28}, 100, 1},
		{7, api.Herd{4: 28}, 100, 28},
		{5, api.Herd{4: 1}, 205, 1},
		{5, api.Herd{}, 205, 0},
		{5, api.Herd{3: 2}, 95, -2},
		{5, api.Herd{1: 1000, 3: 2, 9: 1000}, 95, -1002},
		{5, api.Herd{3: 2}, 205, -2},
	} {
		got, e := stint.Over(c, d.owner, 1, d.h, on(d.day))
		want(t, "Over "+one(d, 0), got, e, d.want, api.OK)
	}
}

// P2.1: the byelaw is that of the day, whatever is known.
func TestByelawOfTheDay(t *testing.T) {
	c := grazed()
	c.Pastures[0].Season = api.Range{Hi: 359}
	for _, w := range []api.When{on(359), {Day: 359, Known: 360}, {Day: 359, Known: 2}} {
		n, e := stint.Most(c, 5, 1, 3, w)
		want(t, "Most by 12 parts", n, e, 12, api.OK)
		n, e = stint.Over(c, 5, 1, api.Herd{3: 13}, w)
		want(t, "Over by 12 parts", n, e, 6, api.OK)
	}
	for _, w := range []api.When{on(360), {Day: 360, Known: 359}, {Day: 360, Known: 2}} {
		n, e := stint.Most(c, 5, 1, 3, w)
		want(t, "Most by 20 parts", n, e, 7, api.OK)
		n, e = stint.Over(c, 5, 1, api.Herd{3: 13}, w)
		want(t, "Over by 20 parts", n, e, 110, api.OK)
	}
}

// P2.1: without a byelaw in force nothing is told of herds, whoever it is and whether the pasture is open or not.
func TestNoByelaw(t *testing.T) {
	c := grazed()
	c.Byelaws[0].From = 96
	for _, d := range []struct {
		pasture, day int
		want         api.Errno
	}{{1, 95, api.ErrForce}, {1, 1, api.ErrForce}, {2, 10, api.ErrForce}, {2, 95, api.ErrForce}, {1, 96, api.OK}} {
		n, e := stint.Takes(c, d.pasture, api.Herd{}, d.day)
		want(t, "Takes", n, e, 0, d.want)
		n, e = stint.Over(c, 5, d.pasture, api.Herd{}, on(d.day))
		want(t, "Over", n, e, 0, d.want)
		n, e = stint.Most(c, 5, d.pasture, 9, on(d.day))
		want(t, "Most", n, e, 0, d.want)
	}
}

// P2.5: Most beasts are not over, one more is; with fewer beasts a herd that is not over is not so, either.
func TestStint(t *testing.T) {
	x := newRandom()
	for range 200 {
		c := randomCommon(x)
		for i := range c.Byelaws {
			c.Byelaws[i].Parts = [10]int{1: x.IntN(3), 2: x.IntN(40), 3: 1 + x.IntN(10)}
		}
		w := randomWhen(x)
		for owner := range someOwners {
			for sort := range 4 {
				checkMost(t, c, 1+owner, 1+sort, w)
			}
			checkFewer(t, c, 1+owner, api.Herd{1: x.IntN(20), 2: x.IntN(3), 3: x.IntN(5)}, w)
		}
	}
}

func checkMost(t *testing.T, c api.Common, owner, sort int, w api.When) {
	t.Helper()
	most, e := stint.Most(c, owner, 1, sort, w)
	wantErrno(t, e, api.OK)
	b, _ := stint.InForce(c, 1, w.Day)
	var h api.Herd
	h[sort] = most
	over, e := stint.Over(c, owner, 1, h, w)
	want(t, "Most is over", over, e, 0, api.OK)
	h[sort]++
	more, e := stint.Over(c, owner, 1, h, w)
	switch {
	case most == api.MaxHead:
		want(t, "MaxHead", more, e, 0, api.ErrHerd)
	case b.Parts[sort] == 0:
		want(t, "none may be there", more, e, -1, api.OK)
	case more <= 0 || more > b.Parts[sort] || e != api.OK:
		t.Error("one more is not over", most, b, more, e)
	}
}

func checkFewer(t *testing.T, c api.Common, owner int, h api.Herd, w api.When) {
	t.Helper()
	over, e := stint.Over(c, owner, 1, h, w)
	wantErrno(t, e, api.OK)
	for sort, n := range h {
		if over == 0 && n > 0 {
			fewer := h
			fewer[sort]--
			n, e := stint.Over(c, owner, 1, fewer, w)
			want(t, "fewer", n, e, 0, api.OK)
		}
	}
}
