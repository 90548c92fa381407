package stint_test

import (
	"testing"

	"pinfold/api"
	"pinfold/stint"
)

// P2.1: Changed, and that it is of what owners may use on any pasture of the day.
func TestChanged(t *testing.T) {
	late := func(d api.Deed, known int) api.Deed {
		d.Known = known
		return d
	}
	c := grazed(
		late(sell(2, 7, 100), 120),
		late(let(1, 3, 1, 20, 101, 110), 121),
		late(split(1, 2, 2, 9, 10), 122),
		late(closed(1, 102, 102), 123),
		late(right(3, 1, 5, 103), 124),
		late(hold(4, 9, 104), 125),
		withdraw(7, 126),
	)
	for _, d := range []struct {
		name              string
		day, known, later int
		want              []int
	}{
		{"nothing", 105, 119, 119, nil},
		{"sold", 100, 119, 120, []int{5, 7}},
		{"sold later", 99, 119, 120, nil},
		{"the other way round", 100, 120, 119, []int{5, 7}},
		{"let", 101, 120, 121, []int{5, 6}},
		{"let no more", 111, 120, 121, nil},
		{"split, but closed", 101, 121, 122, nil},
		{"split, on the other pasture", 360, 121, 122, []int{5, 7}},
		{"closed", 102, 122, 123, []int{5, 6, 7}},
		{"closed no more", 103, 122, 123, nil},
		{"more parts", 103, 123, 124, []int{6}},
		{"more parts, but closed", 280, 123, 124, nil},
		{"a holding without parts", 104, 124, 125, nil},
		{"withdrawn", 103, 125, 126, []int{5, 7}},
		{"all", 103, 0, api.MaxDay, []int{5, 6}},
		{"all but what is withdrawn", 103, 119, api.MaxDay, []int{5, 6}},
	} {
		got, e := stint.Changed(c, d.day, d.known, d.later)
		want(t, d.name, got, e, d.want, api.OK)
	}
	many := common()
	for owner := 1; owner <= 29; owner++ {
		many.Deeds = append(many.Deeds, hold(owner, 100-owner, 1), right(owner, 1, 1, 1))
	}
	for i := range many.Deeds {
		many.Deeds[i].At.No = i
	}
	owners, e := stint.Changed(many, 100, 0, 1)
	if len(owners) != 29 || owners[0] != 71 || owners[28] != 99 || e != api.OK {
		t.Error(owners, e)
	}
}

// P2.1: Rests has the deeds that matter: withdrawals, openings and closings, too, and not those that do not.
func TestRests(t *testing.T) {
	items := func(numbers ...int) []api.Item {
		var l []api.Item
		for _, no := range numbers {
			l = append(l, api.Item{No: no})
		}
		return l
	}
	c := common(two(
		sell(1, 7, 10),         // 3
		sell(1, 5, 11),         // 4
		right(1, 2, 60, 11),    // 5
		split(1, 2, 1, 40, 12), // 6
		withdraw(6, 12),        // 7
		closed(1, 100, 110),    // 8
		opened(1, 105, 105),    // 9
		right(2, 1, 5, 120),    // 10
		opened(1, 280, 281),    // 11
		hold(2, 9, 13),         // 12, void
	)...)
	for _, d := range []struct {
		name           string
		owner, pasture int
		w              api.When
		want           []api.Item
	}{
		{"in season", 5, 1, on(99), items(0, 2, 4, 7)},
		{"the withdrawal is not known", 5, 1, api.When{Day: 99, Known: 11}, items(0, 2, 4)},
		{"known by then", 7, 1, on(10), nil},
		{"sold, in season", 7, 1, api.When{Day: 99, Known: 10}, items(0, 2, 3)},
		{"closed", 5, 1, on(101), items(8)},
		{"opened", 5, 1, on(105), items(0, 2, 4, 7, 9)},
		{"out of season", 5, 1, on(279), nil},
		{"opened out of season", 6, 1, on(280), items(1, 7, 10, 11)},
		{"another pasture", 5, 2, on(11), items(0, 4, 5)},
		{"the other owner", 6, 1, on(120), items(1, 7, 10)},
		{"no owner of any", 99, 1, on(120), nil},
	} {
		got, e := stint.Rests(c, d.owner, d.pasture, d.w)
		want(t, d.name, got, e, d.want, api.OK)
	}
}

// P2.1: Rests is what the commons without each deed say.
func TestRestsOfRandom(t *testing.T) {
	x := newRandom()
	found := 0
	for range 200 {
		c := randomCommon(x)
		w := randomWhen(x)
		owner := 1 + x.IntN(someOwners)
		var wanted []api.Item
		for i, d := range c.Deeds {
			less := cloneCommon(c)
			less.Deeds = append(less.Deeds[:i], less.Deeds[i+1:]...)
			if usable(less, owner, 2, w) != usable(c, owner, 2, w) {
				wanted = append(wanted, d.At)
			}
		}
		got, e := stint.Rests(c, owner, 2, w)
		want(t, "Rests", got, e, wanted, api.OK)
		found += len(got)
	}
	if found < 100 {
		t.Error("few deeds mattered", found)
	}
}

// usable is what an owner may use on a pasture.
func usable(c api.Common, owner, pasture int, w api.When) int {
	n := 0
	l, _ := stint.Owned(c, owner, w)
	for _, holding := range l {
		if open, _ := stint.Open(c, pasture, w); open {
			use, _ := stint.Use(c, holding, pasture, w)
			n += use
		}
	}
	return n
}

// P2.1: Moved has the owners for whom Most is another number, or has another error, without the byelaws of a source.
func TestMoved(t *testing.T) {
	var all []int
	for owner := 1; owner <= api.MaxOwner; owner++ {
		all = append(all, owner)
	}
	c := grazed(sell(3, 9, 90), hold(4, 3, 1), right(4, 2, 1, 1))
	c.Byelaws = []api.Byelaw{
		{Source: 40, Pasture: 1, From: 0, Parts: [10]int{1: 5, 2: 50, 3: 8, 4: 0, 5: 1}},
		{Source: 41, Pasture: 1, From: 100, Parts: [10]int{1: 10, 2: 50, 3: 9, 4: 7, 5: 1}},
		{Source: 42, Pasture: 1, From: 200, Parts: [10]int{1: 10, 2: 60, 3: 9}},
		{Source: 42, Pasture: 2, From: 200, Parts: [10]int{1: 1}},
		{Source: 43, Pasture: 3, From: 0},
	}
	for _, d := range []struct {
		name              string
		source, sort, day int
		want              []int
		e                 api.Errno
	}{
		{"fewer beasts", 41, 1, 150, []int{5, 9}, api.OK},
		{"just as many", 41, 2, 150, nil, api.OK},
		{"7 parts of 8 or of 9", 41, 3, 150, []int{5}, api.OK},
		{"none ahead of it", 41, 4, 150, []int{5, 9}, api.OK},
		{"not yet", 41, 1, 99, nil, api.OK},
		{"no more", 41, 1, 210, nil, api.OK},
		{"no byelaw without it", 40, 1, 50, all, api.OK},
		{"no byelaw, closed", 40, 1, 80, all, api.OK},
		{"no byelaw, and none may be there", 40, 4, 95, all, api.OK},
		{"another is in force", 40, 1, 150, nil, api.OK},
		{"two byelaws of one source", 42, 2, 210, all, api.OK},
		{"the first of them", 42, 5, 150, nil, api.OK},
		{"closed", 41, 1, 460, nil, api.OK},
		{"a pasture of no common", 43, 1, 10, nil, api.OK},
		{"no byelaw has it", 44, 1, 10, nil, api.ErrNone},
		{"no source", 0, 1, 10, nil, api.ErrNone},
	} {
		got, e := stint.Moved(c, d.source, d.sort, on(d.day))
		want(t, d.name, got, e, d.want, d.e)
	}
	c.Byelaws[3] = api.Byelaw{Source: 45, Pasture: 2, Parts: [10]int{2: 1}}
	got, e := stint.Moved(c, 42, 2, on(210))
	want(t, "only where it is in force", got, e, []int{5}, api.OK)
	got, e = stint.Moved(c, 42, 2, api.When{Day: 210, Known: 1})
	want(t, "as known", got, e, nil, api.OK)
	c.Byelaws[4] = api.Byelaw{Source: 45, Pasture: 2, From: 300, Parts: [10]int{2: 3}}
	c.Byelaws[3].Source = 46
	got, e = stint.Moved(c, 45, 2, on(310))
	want(t, "another pasture", got, e, []int{3, 5}, api.OK)
}
