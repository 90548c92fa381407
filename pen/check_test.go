package pen_test

import (
	"fmt"
	"math"
	"math/rand/v2"
	"slices"
	"testing"

	"pinfold/api"
	"pinfold/pen"
)

// changed is the full yard with a change.
func changed(change func(y *api.Yard)) api.Yard {
	y := fullYard()
	change(&y)
	return y
}

// badYards are yards that are not valid, one for each way in which they may not be.
func badYards() []api.Yard {
	l := []api.Yard{
		changed(func(y *api.Yard) { y.Pens = append(y.Pens, 1) }),
		changed(func(y *api.Yard) { y.Pens[0] = -1 }),
		changed(func(y *api.Yard) { y.Pens[4] = api.MaxRoom + 1 }),
		changed(func(y *api.Yard) { y.Kinds[0].Sort = 0 }),
		changed(func(y *api.Yard) { y.Kinds[8].Sort = 10 }),
		changed(func(y *api.Yard) { y.Kinds = append(y.Kinds, api.Kind{Sort: 10, Room: 1}) }),
		changed(func(y *api.Yard) { y.Kinds = append(y.Kinds, y.Kinds[8]) }),
		changed(func(y *api.Yard) { y.Kinds[1].Sort = 1 }),
		changed(func(y *api.Yard) { y.Kinds[3], y.Kinds[4] = y.Kinds[4], y.Kinds[3] }),
		changed(func(y *api.Yard) { y.Kinds[0].Room = 0 }),
		changed(func(y *api.Yard) { y.Kinds[8].Room = api.MaxRoom + 1 }),
		changed(func(y *api.Yard) { y.Kinds[0].Eats = -1 }),
		changed(func(y *api.Yard) { y.Kinds[8].Eats = api.MaxEats + 1 }),
		{Pens: make([]int, 100000)},
		{Kinds: make([]api.Kind, 100000)},
	}
	// 1 is 2^0, and 0 is no sort.
	for _, apart := range []int{1, 3, 1023, 1024, 2048, -1, -2, math.MaxInt, math.MinInt} {
		l = append(l, changed(func(y *api.Yard) { y.Kinds[4].Apart = apart }))
	}
	return l
}

// P5.1: yards, at their limits and one beyond them.
func TestCheckYard(t *testing.T) {
	for _, y := range []api.Yard{{}, {Pens: []int{}, Kinds: []api.Kind{}}, example(), fullYard(), {Pens: []int{0, 0}},
		{Kinds: []api.Kind{{Sort: 9, Room: 1, Apart: 2}}}, {Kinds: []api.Kind{{Sort: 1, Room: 1, Apart: 512}, {Sort: 9, Room: 1}}}} {
		wantErrno(t, fmt.Sprint(y), pen.CheckYard(y), api.OK)
	}
	for _, y := range badYards() {
		wantErrno(t, "CheckYard", pen.CheckYard(y), api.ErrYard)
	}
}

// badBeasts are no beasts of the example.
func badBeasts() [][]int {
	return [][]int{{5}, {0}, {-1}, {1, 2, 10}, {math.MaxInt}, {math.MinInt, 1}, {1, 3, 3, 3, 3, 3, 3, 3, 3}, make([]int, 100000)}
}

// P5.1: beasts, at their limits and one beyond them.
func TestCheckSorts(t *testing.T) {
	for _, l := range [][]int{nil, {}, {1}, {4, 3, 2, 1}, {2, 2, 2, 2, 2, 2, 2, 2}} {
		wantErrno(t, fmt.Sprint(l), pen.CheckSorts(example(), l), api.OK)
	}
	for _, l := range badBeasts() {
		wantErrno(t, "CheckSorts", pen.CheckSorts(example(), l), api.ErrSorts)
		wantErrno(t, "CheckSorts", pen.CheckSorts(badYards()[0], l), api.ErrYard)
	}
	wantErrno(t, "no kinds", pen.CheckSorts(api.Yard{Pens: []int{5}}, []int{1}), api.ErrSorts)
	wantErrno(t, "no beasts", pen.CheckSorts(api.Yard{}, nil), api.OK)
}

// badStays are no stays of the example.
func badStays() [][]api.Stay {
	stay := api.Stay{Sort: 1, In: 5, Out: 9}
	return [][]api.Stay{
		{{Sort: 0, In: 5, Out: 9}}, {{Sort: 5, In: 5, Out: 9}}, {{Sort: -1, In: 5, Out: 9}}, {{Sort: 1 << 40, In: 5, Out: 9}},
		{{Sort: 1, In: -1, Out: 9}}, {{Sort: 1, In: -1, Out: -1}}, {{Sort: 1, In: api.MaxDay + 1, Out: -1}},
		{{Sort: 1, In: api.MaxDay + 1, Out: api.MaxDay + 1}}, {{Sort: 1, In: 5, Out: 4}}, {{Sort: 1, In: 5, Out: -2}},
		{{Sort: 1, In: 0, Out: -2}}, {{Sort: 1, In: 5, Out: api.MaxDay + 1}}, {{Sort: 1, In: math.MinInt, Out: math.MaxInt}},
		{stay, stay, {}, stay, {Sort: 7}}, slices.Repeat([]api.Stay{stay}, api.MaxStays+1), make([]api.Stay, 100000),
	}
}

// P5.1: stays, at their limits and one beyond them.
func TestCheckStays(t *testing.T) {
	for _, l := range [][]api.Stay{nil, {}, exampleStays(), {{Sort: 4, In: 0, Out: 0}}, {{Sort: 1, In: 0, Out: -1}},
		{{Sort: 1, In: api.MaxDay, Out: -1}, {Sort: 1, In: api.MaxDay, Out: api.MaxDay}, {Sort: 1, In: 0, Out: api.MaxDay}},
		slices.Repeat(exampleStays(), api.MaxStays/2)} {
		wantErrno(t, fmt.Sprint(l), pen.CheckStays(example(), l), api.OK)
	}
	for _, l := range badStays() {
		wantErrno(t, "CheckStays", pen.CheckStays(example(), l), api.ErrStays)
		wantErrno(t, "CheckStays", pen.CheckStays(badYards()[0], l), api.ErrYard)
	}
	wantErrno(t, "full", pen.CheckStays(fullYard(), fullStays()), api.OK)
}

// P5.1: two sorts stand apart if one of both names the other.
func TestApart(t *testing.T) {
	each(300, func(_ *rand.Rand, y api.Yard, _ []int) {
		for a := range 11 {
			for b := range 11 {
				apart, e := pen.Apart(y, a, b)
				if kind(y, a).Sort == 0 || kind(y, b).Sort == 0 || a == 0 || b == 0 {
					want(t, "Apart", apart, e, false, api.ErrSorts)
				} else {
					want(t, "Apart", apart, e, mustApart(y, a, b), api.OK)
				}
			}
		}
	})
	y := api.Yard{Kinds: []api.Kind{{Sort: 1, Room: 1}, {Sort: 9, Room: 1, Apart: 2 + 8 + 512}}}
	for _, c := range []struct {
		a, b int
		want bool
		e    api.Errno
	}{{1, 9, true, api.OK}, {9, 1, true, api.OK}, {9, 9, true, api.OK}, {1, 1, false, api.OK}, {9, 3, false, api.ErrSorts}, {3, 9, false, api.ErrSorts}} {
		apart, e := pen.Apart(y, c.a, c.b)
		want(t, "Apart", apart, e, c.want, c.e)
	}
}

// P5.1: the room that beasts take is the sum of what their kinds say.
func TestRoom(t *testing.T) {
	each(300, func(_ *rand.Rand, y api.Yard, l []int) {
		n, e := pen.Room(y, l)
		want(t, "Room", n, e, taken(y, l), api.OK)
	})
	n, e := pen.Room(fullYard(), []int{1, 2, 3, 4, 5, 6, 7, 9})
	want(t, "Room", n, e, 8*api.MaxRoom, api.OK)
}
