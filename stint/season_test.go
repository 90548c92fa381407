package stint_test

import (
	"testing"

	"pinfold/api"
	"pinfold/stint"
)

// P2.1: when a season is, also over the year's end, in each year.
func TestSeasons(t *testing.T) {
	for _, s := range []struct {
		season    api.Range
		in, notIn []int
	}{
		{api.Range{Lo: 90, Hi: 270}, []int{90, 91, 270, 450, 630, 99990}, []int{0, 89, 271, 359, 360, 449, 631}},
		{api.Range{Lo: 300, Hi: 60}, []int{0, 60, 300, 359, 360, 420, 660}, []int{61, 299, 421, 659}},
		{api.Range{Lo: 5, Hi: 5}, []int{5, 365}, []int{4, 6, 364, 366}},
		{api.Range{}, []int{0, 360, 99720}, []int{1, 359, 361, api.MaxDay}},
		{api.Range{Hi: 359}, []int{0, 180, 359, 360, api.MaxDay}, nil},
		{api.Range{Lo: 10, Hi: 9}, []int{0, 9, 10, 359, api.MaxDay}, nil},
		{api.Range{Lo: 359, Hi: 0}, []int{359, 360, 0}, []int{1, 358, 361}},
	} {
		c := api.Common{Pastures: []api.Pasture{{Id: 7}, {Id: 8, Season: s.season}, {Id: 9}}}
		for _, day := range s.in {
			got, e := stint.Open(c, 8, on(day))
			want(t, "in season", got, e, true, api.OK)
		}
		for _, day := range s.notIn {
			got, e := stint.Open(c, 8, on(day))
			want(t, "not in season", got, e, false, api.OK)
		}
	}
}

// P2.1: the last deed that has not ended opens or closes a pasture, and no other pasture.
func TestOpen(t *testing.T) {
	c := common(closed(1, 100, 130), opened(1, 120, 125), closed(2, 1, 200), closed(1, 260, 275), opened(1, 262, 280), opened(1, 140, 150), closed(1, 140, 145), withdraw(4, 278))
	for day, wanted := range map[int]bool{89: false, 90: true, 99: true, 100: false, 119: false, 120: true, 125: true, 126: false, 130: false,
		131: true, 139: true, 140: false, 145: false, 146: true, 151: true, 259: true, 260: false, 261: false, 262: true, 276: true, 277: true, 278: false, 280: false} {
		got, e := stint.Open(c, 1, on(day))
		want(t, "Open "+one(day, 0), got, e, wanted, api.OK)
	}
	got, e := stint.Open(c, 1, api.When{Day: 264, Known: 278})
	want(t, "as the opening is withdrawn", got, e, false, api.OK)
	got, e = stint.Open(c, 1, api.When{Day: 264, Known: 261})
	want(t, "as the opening is not known", got, e, false, api.OK)
}

// P2.8: where nobody opens or closes a pasture, it is open on a day exactly if it is 360 days later.
func TestYears(t *testing.T) {
	x := newRandom()
	for range 20 {
		c := randomCommon(x)
		for i := range c.Pastures {
			c.Pastures[i].Season = api.Range{Lo: x.IntN(360), Hi: x.IntN(360)}
		}
		var deeds []api.Deed
		for _, d := range c.Deeds {
			if d.Kind != api.DeOpen && d.Kind != api.DeClose {
				deeds = append(deeds, d)
			}
		}
		c.Deeds = deeds
		checkYears(t, c, x.IntN(50))
	}
}

func checkYears(t *testing.T, c api.Common, known int) {
	t.Helper()
	for _, p := range c.Pastures {
		days := 0
		for day := range 360 {
			now, e := stint.Open(c, p.Id, api.When{Day: day, Known: known})
			for _, years := range []int{1, 2, 276} {
				later, f := stint.Open(c, p.Id, api.When{Day: day + 360*years, Known: known})
				want(t, "later", later, f, now, e)
			}
			if now {
				days++
			}
		}
		if wanted := (p.Season.Hi-p.Season.Lo+360)%360 + 1; days != wanted {
			t.Error(p, days)
		}
	}
}

// P2.1: the byelaw in force is the last one of the pasture that has begun.
func TestInForce(t *testing.T) {
	c := common()
	c.Byelaws = []api.Byelaw{
		{Source: 3, Pasture: 1, From: 10, Parts: [10]int{1: 5}},
		{Source: 2, Pasture: 1, From: 20, Parts: [10]int{2: 6}},
		{Source: 1, Pasture: 1, From: api.MaxDay, Parts: [10]int{9: 7}},
		{Source: 9, Pasture: 3, From: 0},
	}
	for _, d := range []struct{ day, index int }{{10, 0}, {19, 0}, {20, 1}, {21, 1}, {api.MaxDay - 1, 1}, {api.MaxDay, 2}} {
		got, e := stint.InForce(c, 1, d.day)
		want(t, "InForce", got, e, c.Byelaws[d.index], api.OK)
	}
	for _, d := range []struct {
		pasture, day int
		want         api.Errno
	}{{1, 9, api.ErrForce}, {1, 0, api.ErrForce}, {2, 100, api.ErrForce}, {3, 100, api.ErrPasture}} {
		got, e := stint.InForce(c, d.pasture, d.day)
		want(t, "InForce", got, e, api.Byelaw{}, d.want)
	}
}
