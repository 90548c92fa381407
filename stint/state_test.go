package stint_test

import (
	"slices"
	"testing"

	"pinfold/api"
	"pinfold/stint"
)

// P2.1: the rows of the chapter's examples.
func TestExamples(t *testing.T) {
	c := example()
	for _, d := range []struct {
		pasture int
		w       api.When
		want    bool
	}{{1, on(100), true}, {1, on(300), false}, {2, on(10), true}, {1, on(125), false}, {1, api.When{Day: 125, Known: 119}, true}} {
		got, e := stint.Open(c, d.pasture, d.w)
		want(t, "Open", got, e, d.want, api.OK)
	}
	for _, d := range []struct {
		holding int
		w       api.When
		want    int
	}{{1, on(99), 300}, {1, on(100), 240}, {2, on(100), 60}, {1, api.When{Day: 110, Known: 400}, 300}} {
		got, e := stint.Right(c, d.holding, 1, d.w)
		want(t, "Right", got, e, d.want, api.OK)
	}
	for _, d := range []struct{ holding, day, want int }{{1, 110, 120}, {2, 110, 180}, {1, 201, 240}} {
		got, e := stint.Use(c, d.holding, 1, on(d.day))
		want(t, "Use", got, e, d.want, api.OK)
	}
	total, e := stint.Total(c, 1, on(110))
	want(t, "Total", total, e, 300, api.OK)
	for _, known := range []int{150, 400} {
		void, e := stint.Void(c, known)
		want(t, "Void", void, e, []api.Item{{No: 5}}, api.OK)
	}
	for _, d := range []struct{ sort, day, want int }{{1, 110, 2}, {3, 110, 10}, {3, 470, 15}, {2, 110, 0}} {
		got, e := stint.Most(c, 5, 1, d.sort, on(d.day))
		want(t, "Most", got, e, d.want, api.OK)
	}
	for _, d := range []struct {
		h    api.Herd
		want int
	}{{api.Herd{1: 2, 3: 1}, 12}, {api.Herd{1: 1, 3: 2}, 0}, {api.Herd{2: 1}, -1}} {
		got, e := stint.Over(c, 5, 1, d.h, on(110))
		want(t, "Over", got, e, d.want, api.OK)
	}
	owners, e := stint.Changed(c, 110, 110, 400)
	want(t, "Changed", owners, e, []int{5, 6}, api.OK)
	rests, e := stint.Rests(c, 5, 1, on(110))
	want(t, "Rests", rests, e, []api.Item{{No: 0}, {No: 1}, {No: 2}, {No: 3}, {No: 4}}, api.OK)
}

// P2.1: holdings, whose they are, and how this changes.
func TestHoldings(t *testing.T) {
	c := common(hold(9, 5, 10), hold(2, 7, 5), sell(9, 7, 20), join(9, 2, 30), hold(99, 99, 40), sell(99, 1, 40), hold(9, 5, 50))
	for _, d := range []struct {
		day      int
		holdings []int
		owner    int
		e        api.Errno
		owned    []int // of the owner 7
	}{
		{4, nil, 0, api.ErrHolding, nil},
		{9, []int{2}, 0, api.ErrHolding, []int{2}},
		{10, []int{2, 9}, 5, api.OK, []int{2}},
		{20, []int{2, 9}, 7, api.OK, []int{2, 9}},
		{30, []int{2}, 0, api.ErrHolding, []int{2}},
		{40, []int{2, 99}, 0, api.ErrHolding, []int{2}},
		{50, []int{2, 99}, 0, api.ErrHolding, []int{2}},
	} {
		holdings, e := stint.Holdings(c, on(d.day))
		want(t, "Holdings", holdings, e, d.holdings, api.OK)
		owner, e := stint.Owner(c, 9, on(d.day))
		want(t, "Owner", owner, e, d.owner, d.e)
		owned, e := stint.Owned(c, 7, on(d.day))
		want(t, "Owned", owned, e, d.owned, api.OK)
	}
	owner, e := stint.Owner(c, 99, on(40))
	want(t, "sold on its first day", owner, e, 1, api.OK)
}

// P2.1: deeds are applied in the order of their Days, and those of one Day in the order of their items.
func TestOrder(t *testing.T) {
	c := common(sell(1, 6, 7), hold(1, 5, 7), sell(1, 8, 9), sell(1, 9, 8), hold(1, 4, 6))
	owner, e := stint.Owner(c, 1, on(8))
	want(t, "up to 8", owner, e, 9, api.OK)
	owner, e = stint.Owner(c, 1, on(9))
	want(t, "up to 9", owner, e, 8, api.OK)
	void, e := stint.Void(c, 9)
	want(t, "void", void, e, []api.Item{{No: 1}}, api.OK)
	c = common(right(1, 1, 5, 7), hold(1, 5, 7), right(1, 1, 9, 7))
	parts, e := stint.Right(c, 1, 1, on(7))
	want(t, "a right ahead of its holding", parts, e, 9, api.OK)
}

// A voidCase says whether the last one of its deeds is void.
type voidCase struct {
	name  string
	deeds []api.Deed
	void  bool
}

func checkVoid(t *testing.T, cases []voidCase) {
	t.Helper()
	for _, v := range cases {
		c := common(v.deeds...)
		got, e := stint.Void(c, api.MaxDay)
		at := c.Deeds[len(c.Deeds)-1].At
		if slices.Contains(got, at) != v.void || e != api.OK {
			t.Error(v.name, got, e)
		}
		day := v.deeds[len(v.deeds)-1].Day
		less := cloneCommon(c)
		less.Deeds = less.Deeds[:len(less.Deeds)-1]
		if v.void && told(c, on(day)) != told(less, on(day)) {
			t.Error(v.name, "a void deed does something")
		}
	}
}

// two are the holdings 1 and 2, with 100 parts on the pasture 1 for the first one.
func two(more ...api.Deed) []api.Deed {
	return append([]api.Deed{hold(1, 5, 1), hold(2, 6, 1), right(1, 1, 100, 2)}, more...)
}

// P2.1: deeds that are void where a holding or a pasture is not there.
func TestVoidWithout(t *testing.T) {
	checkVoid(t, []voidCase{
		{"hold", two(hold(3, 5, 2)), false},
		{"hold twice", two(hold(1, 6, 2)), true},
		{"hold again", two(join(2, 1, 3), hold(2, 6, 4)), true},
		{"right", two(right(2, 2, 7, 3)), false},
		{"right of none", two(right(3, 1, 7, 3)), true},
		{"right of one that was joined", two(join(2, 1, 3), right(2, 1, 7, 4)), true},
		{"right on a pasture of another common", two(right(1, 3, 7, 3)), true},
		{"sold", two(sell(2, 9, 3)), false},
		{"sold to its owner", two(sell(1, 5, 3)), false},
		{"none is sold", two(sell(3, 9, 3)), true},
		{"split", two(split(1, 2, 1, 100, 3)), false},
		{"split of none", two(split(3, 2, 1, 1, 3)), true},
		{"split to none", two(split(1, 3, 1, 1, 3)), true},
		{"split on another pasture", two(split(1, 2, 2, 1, 3)), true},
		{"split on a pasture of another common", two(split(1, 2, 3, 1, 3)), true},
		{"split of too much", two(split(1, 2, 1, 101, 3)), true},
		{"join", two(join(1, 2, 3)), false},
		{"join of none", two(join(3, 2, 3)), true},
		{"join to none", two(join(1, 3, 3)), true},
		{"join again", two(join(1, 2, 3), join(1, 2, 4)), true},
		{"let", two(let(1, 2, 1, 100, 3, 3)), false},
		{"let of none", two(let(3, 2, 1, 1, 3, 9)), true},
		{"let to none", two(let(1, 3, 1, 1, 3, 9)), true},
		{"let of too much", two(let(1, 2, 1, 101, 3, 9)), true},
		{"let on another pasture", two(let(1, 2, 2, 1, 3, 9)), true},
		{"open", two(opened(2, 3, 3)), false},
		{"open another", two(opened(3, 3, 3)), true},
		{"close", two(closed(2, 3, 3)), false},
		{"close another", two(closed(3, 3, 3)), true},
	})
}

// P2.1: what is free, and what is let, by lettings up to their last day and behind it.
func TestVoidByLettings(t *testing.T) {
	checkVoid(t, []voidCase{
		{"split of what is free", two(let(1, 2, 1, 60, 10, 20), split(1, 2, 1, 40, 20)), false},
		{"split of what is let", two(let(1, 2, 1, 60, 10, 20), split(1, 2, 1, 41, 20)), true},
		{"split behind the letting", two(let(1, 2, 1, 60, 10, 20), split(1, 2, 1, 100, 21)), false},
		{"split of what one was let", two(let(1, 2, 1, 60, 10, 20), split(2, 1, 1, 1, 15)), true},
		{"let of what is free", two(let(1, 2, 1, 60, 10, 20), let(1, 2, 1, 40, 20, 30)), false},
		{"let of what is let", two(let(1, 2, 1, 60, 10, 20), let(1, 2, 1, 41, 20, 30)), true},
		{"let behind the letting", two(let(1, 2, 1, 60, 10, 20), let(1, 2, 1, 100, 21, 30)), false},
		{"let of what one was let", two(let(1, 2, 1, 60, 10, 20), let(2, 1, 1, 1, 15, 16)), true},
		{"let on another pasture", two(right(1, 2, 50, 3), let(1, 2, 1, 60, 10, 20), let(1, 2, 2, 50, 15, 20)), false},
		{"all lettings count", two(let(1, 2, 1, 30, 10, 20), let(1, 2, 1, 30, 11, 30), let(1, 2, 1, 41, 12, 12)), true},
		{"those of others do not", two(right(2, 1, 100, 3), let(2, 1, 1, 60, 10, 20), split(1, 2, 1, 100, 15)), false},
		{"join of one that has let", two(let(1, 2, 1, 60, 10, 20), join(1, 2, 20)), true},
		{"join of one that was let", two(let(1, 2, 1, 60, 10, 20), join(2, 1, 20)), true},
		{"join behind the letting", two(let(1, 2, 1, 60, 10, 20), join(1, 2, 21)), false},
		{"join of one that was let, behind it", two(let(1, 2, 1, 60, 10, 20), join(2, 1, 21)), false},
		{"join to one that has let", two(hold(3, 5, 1), let(1, 2, 1, 60, 10, 20), join(3, 1, 15)), false},
		{"join to one that was let", two(hold(3, 5, 1), let(1, 2, 1, 60, 10, 20), join(3, 2, 15)), false},
		{"an earlier letting is looked at, too", two(hold(3, 5, 1), let(1, 2, 1, 60, 10, 20), let(1, 3, 1, 1, 11, 11), join(2, 3, 15)), true},
		{"a void letting", two(let(1, 2, 1, 101, 10, 20), join(1, 2, 15)), false},
	})
}

// P2.1: a pasture has at most 10^6 parts, of all holdings; other pastures do not count.
func TestMostParts(t *testing.T) {
	l := []api.Deed{hold(1, 5, 1), hold(2, 5, 1)}
	for i := range 10 {
		l = append(l, right(1+i%2, 1, api.MaxParts, 2))
	}
	less := slices.Clone(l)
	less[11].Parts = api.MaxParts - 5
	checkVoid(t, []voidCase{
		{"the tenth", l, false},
		{"one part more", append(slices.Clone(l), right(2, 1, 1, 3)), true},
		{"another pasture", append(slices.Clone(l), right(2, 2, api.MaxParts, 3)), false},
		{"up to it", append(slices.Clone(less), right(2, 1, 5, 3)), false},
		{"above it", append(slices.Clone(less), right(2, 1, 6, 3)), true},
		{"when they are joined", append(slices.Clone(l), join(2, 1, 3), right(1, 1, 1, 4)), true},
	})
	total, e := stint.Total(common(l...), 1, on(2))
	want(t, "Total", total, e, 1000000, api.OK)
}

// P2.1: what splits, joins and lettings do, on all pastures.
func TestRights(t *testing.T) {
	c := common(two(right(1, 2, 40, 2), right(2, 1, 7, 3), right(1, 1, 1, 3),
		split(1, 2, 1, 30, 10), let(1, 2, 1, 20, 20, 29), let(2, 1, 1, 5, 20, 24), let(1, 2, 2, 40, 25, 25), join(2, 1, 30))...)
	for _, d := range []struct {
		day, holding, pasture int
		right, use            int
		e                     api.Errno
	}{
		{1, 1, 1, 0, 0, api.OK},
		{2, 1, 1, 100, 100, api.OK},
		{2, 1, 2, 40, 40, api.OK},
		{3, 1, 1, 101, 101, api.OK},
		{3, 2, 1, 7, 7, api.OK},
		{10, 1, 1, 71, 71, api.OK},
		{10, 2, 1, 37, 37, api.OK},
		{10, 2, 2, 0, 0, api.OK},
		{20, 1, 1, 71, 56, api.OK},
		{20, 2, 1, 37, 52, api.OK},
		{24, 2, 1, 37, 52, api.OK},
		{25, 1, 1, 71, 51, api.OK},
		{25, 2, 1, 37, 57, api.OK},
		{25, 1, 2, 40, 0, api.OK},
		{25, 2, 2, 0, 40, api.OK},
		{26, 1, 2, 40, 40, api.OK},
		{29, 2, 1, 37, 57, api.OK},
		{30, 1, 1, 108, 108, api.OK},
		{30, 1, 2, 40, 40, api.OK},
		{30, 2, 1, 0, 0, api.ErrHolding},
	} {
		parts, e := stint.Right(c, d.holding, d.pasture, on(d.day))
		want(t, "Right", parts, e, d.right, d.e)
		parts, e = stint.Use(c, d.holding, d.pasture, on(d.day))
		want(t, "Use", parts, e, d.use, d.e)
	}
	for day, wanted := range map[int]int{1: 0, 2: 100, 3: 108, 25: 108, 30: 108} {
		total, e := stint.Total(c, 1, on(day))
		want(t, "Total", total, e, wanted, api.OK)
	}
	joined, e := stint.Right(common(two(right(1, 2, 40, 2), join(1, 2, 3))...), 2, 2, on(3))
	want(t, "all pastures are joined", joined, e, 40, api.OK)
}
