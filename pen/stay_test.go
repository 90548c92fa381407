package pen_test

import (
	"fmt"
	"math"
	"math/rand/v2"
	"slices"
	"testing"

	"pinfold/api"
	"pinfold/pen"
)

// isThere is what the chapter says of the days of a stay.
func isThere(s api.Stay, day int) bool {
	return day >= s.In && (s.Out == -1 || day <= s.Out-1)
}

// those has the indices of the stays whose beasts are there.
func those(l []api.Stay, day int) []int {
	var beasts []int
	for i, s := range l {
		if isThere(s, day) {
			beasts = append(beasts, i)
		}
	}
	return beasts
}

// sortsOf has the sorts of the beasts that are there, in order.
func sortsOf(l []api.Stay, day int) []int {
	var sorts []int
	for _, i := range those(l, day) {
		sorts = append(sorts, l[i].Sort)
	}
	return sorts
}

// onDay is what is eaten on one day.
func onDay(y api.Yard, l []api.Stay, day int) int {
	n := 0
	for _, sort := range sortsOf(l, day) {
		n += kind(y, sort).Eats
	}
	return n
}

// someDays is behind all that happens to random stays.
const someDays = 15

// randomStays are of days ahead of the last one of someDays.
func randomStays(x *rand.Rand, y api.Yard) []api.Stay {
	var l []api.Stay
	for range x.IntN(8) {
		s := api.Stay{Sort: y.Kinds[x.IntN(len(y.Kinds))].Sort, In: x.IntN(10), Out: -1}
		if x.IntN(4) > 0 {
			s.Out = s.In + x.IntN(4)
		}
		l = append(l, s)
	}
	return l
}

// eachStays has random yards, with stays that seldom fill them at once.
func eachStays(times int, ask func(x *rand.Rand, y api.Yard, l []api.Stay)) {
	x := newRandom()
	for range times {
		y := randomYard(x)
		ask(x, y, randomStays(x, y))
	}
}

// P5.1: There has those who are there, day by day.
func TestThere(t *testing.T) {
	eachStays(300, func(_ *rand.Rand, y api.Yard, l []api.Stay) {
		for day := range someDays {
			got, e := pen.There(y, l, day)
			want(t, fmt.Sprint("There ", l, day), got, e, those(l, day), api.OK)
		}
	})
	l := []api.Stay{{Sort: 1, In: 5, Out: 5}, {Sort: 1, In: 5, Out: 6}, {Sort: 1, In: 5, Out: -1}, {Sort: 1, In: 0, Out: api.MaxDay}, {Sort: 1, In: api.MaxDay, Out: -1}}
	for day, wanted := range map[int][]int{0: {3}, 4: {3}, 5: {1, 2, 3}, 6: {2, 3}, api.MaxDay - 1: {2, 3}, api.MaxDay: {2, 4}} {
		got, e := pen.There(example(), l, day)
		want(t, fmt.Sprint("There ", day), got, e, wanted, api.OK)
	}
}

// P5.1, P5.7: a yard is full on the day of Full, and on no day ahead of it.
func TestFull(t *testing.T) {
	late := map[bool]int{}
	eachStays(600, func(_ *rand.Rand, y api.Yard, l []api.Stay) {
		wanted, wantedE := 0, api.ErrNone
		for day := range someDays {
			if stuck(y, sortsOf(l, day)) {
				wanted, wantedE = day, api.OK
				break
			}
		}
		got, e := pen.Full(y, l)
		want(t, fmt.Sprint("Full ", y, l), got, e, wanted, wantedE)
		if e == api.OK {
			late[got > slices.MinFunc(l, func(a, b api.Stay) int { return a.In - b.In }).In]++
		}
	})
	if late[true] < 20 || late[false] < 20 {
		t.Error(late)
	}
}

// P5.1: more than MaxInside beasts make a yard full, though they have room; on no day there are too many where they come one behind the other.
func TestFullOfMany(t *testing.T) {
	y := free(api.MaxRoom)
	many := func(n int, s api.Stay) []api.Stay { return slices.Repeat([]api.Stay{s}, n) }
	for _, c := range []struct {
		l    []api.Stay
		want int
		e    api.Errno
	}{
		{nil, 0, api.ErrNone},
		{many(8, api.Stay{Sort: 1, In: 7, Out: -1}), 0, api.ErrNone},
		{many(9, api.Stay{Sort: 1, In: 7, Out: -1}), 7, api.OK},
		{many(9, api.Stay{Sort: 1, In: 7, Out: 7}), 0, api.ErrNone},
		{many(9, api.Stay{Sort: 1, In: 0, Out: 1}), 0, api.OK},
		{many(9, api.Stay{Sort: 1, In: api.MaxDay, Out: -1}), api.MaxDay, api.OK},
		{slices.Concat(many(5, api.Stay{Sort: 1, In: 20, Out: -1}), many(3, api.Stay{Sort: 1, In: 3, Out: 21}), many(1, api.Stay{Sort: 1, In: 21, Out: -1})), 0, api.ErrNone},
		{slices.Concat(many(5, api.Stay{Sort: 1, In: 20, Out: -1}), many(4, api.Stay{Sort: 1, In: 3, Out: 21})), 20, api.OK},
		{many(40, api.Stay{Sort: 1, In: 99, Out: 100}), 99, api.OK},
	} {
		got, e := pen.Full(y, c.l)
		want(t, fmt.Sprint("Full ", c.l), got, e, c.want, c.e)
	}
	got, e := pen.Full(api.Yard{Kinds: y.Kinds}, []api.Stay{{Sort: 1, In: 9, Out: 9}, {Sort: 1, In: 5, Out: -1}})
	want(t, "no pens", got, e, 5, api.OK)
}

// P5.1: the days on which as many beasts as may be placed are there, each one after the other, are searched to their end.
func TestFullOnNoDay(t *testing.T) {
	y, sorts := ring()
	y.Kinds[0].Apart &^= 1 << 2
	var l []api.Stay
	for i := range api.MaxStays {
		l = append(l, api.Stay{Sort: sorts[i%8], In: i, Out: i + 8})
	}
	got, e := pen.Full(y, l)
	want(t, "Full", got, e, 0, api.ErrNone)
	y.Kinds[0].Apart |= 1 << 2
	got, e = pen.Full(y, l)
	want(t, "Full", got, e, 7, api.OK)
}

// P5.1, P5.7: what is eaten grows from day to day by what those eat who are there.
func TestEaten(t *testing.T) {
	eachStays(300, func(_ *rand.Rand, y api.Yard, l []api.Stay) {
		all := 0
		for day := range someDays {
			all += onDay(y, l, day)
			got, e := pen.Eaten(y, l, day)
			want(t, fmt.Sprint("Eaten ", y, l, day), got, e, all, api.OK)
		}
	})
	for _, c := range []struct {
		l         []api.Stay
		day, want int
	}{
		{fullStays(), 0, api.MaxStays * api.MaxEats},
		{fullStays(), api.MaxDay, api.MaxStays * api.MaxEats * (api.MaxDay + 1)},
		{nil, api.MaxDay, 0},
		{[]api.Stay{{Sort: 1, In: 5, Out: 5}}, 9, 0},
		{[]api.Stay{{Sort: 1, In: 5, Out: 6}}, api.MaxDay, api.MaxEats},
		{[]api.Stay{{Sort: 1, In: api.MaxDay, Out: -1}}, api.MaxDay - 1, 0},
		{[]api.Stay{{Sort: 1, In: api.MaxDay, Out: -1}}, api.MaxDay, api.MaxEats},
	} {
		got, e := pen.Eaten(fullYard(), c.l, c.day)
		want(t, fmt.Sprint("Eaten ", c.day), got, e, c.want, api.OK)
	}
}

// P5.1, P5.7: fodder lasts up to the day of Lasts, and not for the next one.
func TestLasts(t *testing.T) {
	eachStays(300, func(_ *rand.Rand, y api.Yard, l []api.Stay) {
		for fodder := range 40 {
			wanted, all := -1, 0
			for day := range someDays {
				all += onDay(y, l, day)
				if all <= fodder {
					wanted = day
				}
			}
			got, e := pen.Lasts(y, l, fodder)
			switch {
			case wanted < 0:
				want(t, fmt.Sprint("Lasts ", y, l, fodder), got, e, 0, api.ErrNone)
			case wanted < someDays-1:
				want(t, fmt.Sprint("Lasts ", y, l, fodder), got, e, wanted, api.OK)
			default:
				wantLasts(t, y, l, fodder, got, e)
			}
		}
	})
}

// wantLasts compares a day of Lasts with what is eaten up to it, and up to the next one.
func wantLasts(t *testing.T, y api.Yard, l []api.Stay, fodder, day int, e api.Errno) {
	t.Helper()
	wantErrno(t, fmt.Sprint("Lasts ", y, l, fodder), e, api.OK)
	now, e := pen.Eaten(y, l, day)
	wantErrno(t, "Eaten", e, api.OK)
	next, e := pen.Eaten(y, l, day+1)
	if now > fodder || day < api.MaxDay && next <= fodder || day == api.MaxDay && e != api.ErrDay {
		t.Error(y, l, fodder, day, now, next, e)
	}
}

// P5.1: Lasts at the limits of fodder and of days.
func TestLastsAtTheLimits(t *testing.T) {
	y, daily := fullYard(), api.MaxStays*api.MaxEats
	for _, c := range []struct {
		l            []api.Stay
		fodder, want int
		e            api.Errno
	}{
		{nil, 0, api.MaxDay, api.OK},
		{nil, 1e12, api.MaxDay, api.OK},
		{nil, 1e12 + 1, 0, api.ErrArg},
		{nil, -1, 0, api.ErrArg},
		{nil, math.MaxInt, 0, api.ErrArg},
		{nil, math.MinInt, 0, api.ErrArg},
		{fullStays(), 0, 0, api.ErrNone},
		{fullStays(), daily - 1, 0, api.ErrNone},
		{fullStays(), daily, 0, api.OK},
		{fullStays(), 2*daily - 1, 0, api.OK},
		{fullStays(), daily*(api.MaxDay+1) - 1, api.MaxDay - 1, api.OK},
		{fullStays(), daily * (api.MaxDay + 1), api.MaxDay, api.OK},
		{fullStays(), 1e12, api.MaxDay, api.OK},
		{[]api.Stay{{Sort: 1, In: 1, Out: -1}}, 0, 0, api.OK},
		{[]api.Stay{{Sort: 1, In: 0, Out: 2}}, 2 * api.MaxEats, api.MaxDay, api.OK},
		{[]api.Stay{{Sort: 1, In: api.MaxDay, Out: -1}}, api.MaxEats - 1, api.MaxDay - 1, api.OK},
	} {
		got, e := pen.Lasts(y, c.l, c.fodder)
		want(t, fmt.Sprint("Lasts ", c.l, c.fodder), got, e, c.want, c.e)
	}
}
