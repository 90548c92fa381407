package pen_test

import (
	"fmt"
	"math"
	"math/rand/v2"
	"slices"
	"testing"

	"pinfold/api"
	"pinfold/pen"
)

// P5.1: CheckPlace accepts just what is a placement, of all lists of pens.
func TestCheckPlace(t *testing.T) {
	each(300, func(_ *rand.Rand, y api.Yard, l []int) {
		for _, p := range lists(len(l), len(y.Pens)+1) {
			wanted := api.ErrPlaced
			if isPlaced(y, l, p) {
				wanted = api.OK
			}
			wantErrno(t, fmt.Sprint(y, l, p), pen.CheckPlace(y, l, p), wanted)
		}
	})
}

// badPlaces are no placements of the beasts 1, 1 and 2 of the example.
func badPlaces() [][]int {
	return [][]int{nil, {}, {0, 0}, {0, 0, 1, 1}, {0, 0, 0, 1}, {0, 0, 3}, {0, 0, -1}, {math.MinInt, 0, math.MaxInt}, {0, 0, 0}, {1, 1, 0},
		{2, 0, 1}, {0, 1, 1}, make([]int, 100000)}
}

// P5.1: lists that are no placement, by their length, a pen that there is not, too little room, and sorts that must stand apart.
func TestBadPlaces(t *testing.T) {
	for _, p := range badPlaces() {
		wantErrno(t, "CheckPlace", pen.CheckPlace(example(), []int{1, 1, 2}, p), api.ErrPlaced)
	}
	wantErrno(t, "no pens", pen.CheckPlace(api.Yard{Kinds: example().Kinds}, []int{3}, []int{0}), api.ErrPlaced)
	wantErrno(t, "no beasts", pen.CheckPlace(example(), nil, []int{0}), api.ErrPlaced)
	for _, p := range [][]int{nil, {}} {
		wantErrno(t, "nothing", pen.CheckPlace(api.Yard{}, []int{}, p), api.OK)
	}
}

// P5.1: a beast may take all the room of a pen, and no more.
func TestRoomItself(t *testing.T) {
	for room, wanted := range map[int]api.Errno{api.MaxRoom: api.OK, api.MaxRoom - 1: api.ErrPlaced} {
		y := api.Yard{Pens: []int{room}, Kinds: []api.Kind{{Sort: 1, Room: 400}, {Sort: 2, Room: 200}}}
		wantErrno(t, fmt.Sprint(room), pen.CheckPlace(y, []int{1, 2, 1}, []int{0, 0, 0}), wanted)
	}
}

// P5.1: sorts that must stand apart from themselves have a pen each.
func TestApartFromItself(t *testing.T) {
	y := api.Yard{Pens: []int{9, 9}, Kinds: []api.Kind{{Sort: 1, Room: 1}, {Sort: 2, Room: 1, Apart: 4}}}
	for _, c := range []struct {
		l    []int
		want [][]int
	}{
		{[]int{2}, [][]int{{0}, {1}}},
		{[]int{2, 2}, [][]int{{0, 1}, {1, 0}}},
		{[]int{2, 1, 2}, [][]int{{0, 0, 1}, {0, 1, 1}, {1, 0, 0}, {1, 1, 0}}},
		{[]int{2, 2, 2}, nil},
	} {
		wantPlacements(t, y, c.l, c.want)
	}
}

// wantPlacements compares Place, Count, and all that Nth returns, with the placements that there are, in order.
func wantPlacements(t *testing.T, y api.Yard, l []int, wanted [][]int) {
	t.Helper()
	p, e := pen.Place(y, l)
	if len(wanted) == 0 {
		want(t, fmt.Sprint("Place ", y, l), p, e, nil, api.ErrTight)
	} else {
		want(t, fmt.Sprint("Place ", y, l), p, e, wanted[0], api.OK)
	}
	n, e := pen.Count(y, l)
	want(t, fmt.Sprint("Count ", y, l), n, e, min(len(wanted), api.MaxPlaces), api.OK)
	for i := range n {
		p, e := pen.Nth(y, l, i)
		want(t, fmt.Sprint("Nth ", y, l, i), p, e, wanted[i], api.OK)
	}
	for _, i := range []int{-1, n, n + 1, api.MaxPlaces, math.MaxInt, math.MinInt} {
		p, e := pen.Nth(y, l, i)
		want(t, fmt.Sprint("Nth ", y, l, i), p, e, nil, api.ErrNone)
	}
}

// P5.1, P5.3: Place, Count and Nth tell just the placements that there are, in their order.
func TestPlacements(t *testing.T) {
	some := map[bool]int{}
	each(1500, func(_ *rand.Rand, y api.Yard, l []int) {
		all := placements(y, l)
		some[len(all) > 0]++
		wantPlacements(t, y, l, all)
	})
	if some[true] < 300 || some[false] < 300 {
		t.Error(some)
	}
}

// P5.1: no beasts have one placement, that is empty, also in a yard without pens; where there are beasts, they have none there.
func TestNoBeasts(t *testing.T) {
	for _, y := range []api.Yard{{}, example(), {Kinds: example().Kinds}, {Pens: []int{0}}} {
		for _, l := range [][]int{nil, {}} {
			wantPlacements(t, y, l, [][]int{nil})
			p, e := pen.Fewest(y, l)
			want(t, "Fewest", p, e, nil, api.OK)
		}
	}
	wantPlacements(t, api.Yard{Kinds: example().Kinds}, []int{3}, nil)
	p, e := pen.Fewest(api.Yard{Kinds: example().Kinds}, []int{3})
	want(t, "Fewest", p, e, nil, api.ErrTight)
	wantPlacements(t, free(0), []int{1}, nil)
}

// P5.1: up to MaxPlaces placements are counted, and told by Nth, though there are more (1024, 3125, 390625).
func TestManyPlaces(t *testing.T) {
	for _, c := range []struct{ pens, beasts, want int }{{5, 4, 625}, {4, 5, 1000}, {5, 5, 1000}, {5, 8, 1000}, {1, 8, 1}, {2, 8, 256}} {
		y := free(slices.Repeat([]int{8}, c.pens)...)
		l := slices.Repeat([]int{1}, c.beasts)
		n, e := pen.Count(y, l)
		want(t, fmt.Sprint(c), n, e, c.want, api.OK)
		last := make([]int, c.beasts)
		for i, rest := c.beasts-1, c.want-1; i >= 0; i-- {
			last[i], rest = rest%c.pens, rest/c.pens
		}
		p, e := pen.Nth(y, l, c.want-1)
		want(t, "Nth", p, e, last, api.OK)
		p, e = pen.Nth(y, l, c.want)
		want(t, "Nth", p, e, nil, api.ErrNone)
	}
}

// P5.1: as many beasts and pens as may be, of which no six must stand apart from each other: it takes all tries to see that they have no placement, and one sort less that must stand apart gives them one.
func TestAllPens(t *testing.T) {
	y, l := ring()
	p, e := pen.Place(y, l)
	want(t, "Place", p, e, nil, api.ErrTight)
	n, e := pen.Count(y, l)
	want(t, "Count", n, e, 0, api.OK)
	p, e = pen.Fewest(y, l)
	want(t, "Fewest", p, e, nil, api.ErrTight)
	y.Kinds[0].Apart &^= 1 << 2
	p, e = pen.Place(y, l)
	want(t, "Place", p, e, []int{0, 0, 1, 0, 1, 2, 3, 4}, api.OK)
	p, e = pen.Nth(y, l, 119)
	want(t, "Nth", p, e, []int{4, 4, 3, 4, 3, 2, 1, 0}, api.OK)
}

// P5.1, P5.6: Fewest is the first of the placements that use the fewest pens.
func TestFewest(t *testing.T) {
	differ := 0
	each(1500, func(_ *rand.Rand, y api.Yard, l []int) {
		all := placements(y, l)
		var wanted []int
		wantedE := api.ErrTight
		for i, p := range all {
			if i == 0 || used(p) < used(wanted) {
				wanted, wantedE = p, api.OK
			}
		}
		if len(all) > 0 && !slices.Equal(all[0], wanted) {
			differ++
		}
		p, e := pen.Fewest(y, l)
		want(t, fmt.Sprint("Fewest ", y, l), p, e, wanted, wantedE)
	})
	if differ < 20 {
		t.Error(differ)
	}
	p, e := pen.Fewest(free(1, 2, 3, 8, 8), slices.Repeat([]int{1}, 8))
	want(t, "all in one", p, e, slices.Repeat([]int{3}, 8), api.OK)
}

// P5.1: what is free in each pen, and who stands in it.
func TestFreeAndInside(t *testing.T) {
	each(300, func(_ *rand.Rand, y api.Yard, l []int) {
		for _, p := range placements(y, l) {
			var wanted []int
			for i, room := range y.Pens {
				var beasts []int
				for j, of := range p {
					if of == i {
						beasts = append(beasts, j)
					}
				}
				wanted = append(wanted, room-taken(y, some(l, beasts)))
				got, e := pen.Inside(y, l, p, i)
				want(t, fmt.Sprint("Inside ", y, l, p, i), got, e, beasts, api.OK)
			}
			got, e := pen.Free(y, l, p)
			want(t, fmt.Sprint("Free ", y, l, p), got, e, wanted, api.OK)
		}
	})
	got, e := pen.Free(api.Yard{}, nil, nil)
	want(t, "no pens", got, e, nil, api.OK)
	got, e = pen.Free(example(), nil, nil)
	want(t, "no beasts", got, e, []int{10, 6, 4}, api.OK)
}

// P5.1, P5.5: Add tells the first pen with which there is a placement again.
func TestAdd(t *testing.T) {
	each(300, func(_ *rand.Rand, y api.Yard, l []int) {
		for _, p := range placements(y, l) {
			for _, k := range y.Kinds {
				wanted, wantedE := 0, api.ErrTight
				more := append(slices.Clone(l), k.Sort)
				for i := range y.Pens {
					if isPlaced(y, more, append(slices.Clone(p), i)) {
						wanted, wantedE = i, api.OK
						break
					}
				}
				i, e := pen.Add(y, l, p, k.Sort)
				want(t, fmt.Sprint("Add ", y, l, p, k.Sort), i, e, wanted, wantedE)
				if e == api.OK {
					wantErrno(t, "placed", pen.CheckPlace(y, more, append(slices.Clone(p), i)), api.OK)
				}
			}
		}
	})
}

// P5.1: Add up to MaxInside beasts.
func TestAddTheLastOne(t *testing.T) {
	y := free(api.MaxRoom)
	for n := range api.MaxInside + 1 {
		wanted := api.OK
		if n == api.MaxInside {
			wanted = api.ErrLong
		}
		i, e := pen.Add(y, slices.Repeat([]int{1}, n), make([]int, n), 1)
		want(t, fmt.Sprint("Add ", n), i, e, 0, wanted)
	}
}

// P5.1: Move to each pen, the own one too, tells what is a placement.
func TestMove(t *testing.T) {
	each(300, func(_ *rand.Rand, y api.Yard, l []int) {
		for _, p := range placements(y, l) {
			for i := range l {
				for to := range y.Pens {
					wanted, wantedE := slices.Clone(p), api.OK
					wanted[i] = to
					if !isPlaced(y, l, wanted) {
						wanted, wantedE = nil, api.ErrTight
					}
					got, e := pen.Move(y, l, p, i, to)
					want(t, fmt.Sprint("Move ", y, l, p, i, to), got, e, wanted, wantedE)
				}
			}
		}
	})
}

// P5.1, P5.5: what Take leaves is all but the beast, and a placement.
func TestTake(t *testing.T) {
	each(300, func(_ *rand.Rand, y api.Yard, l []int) {
		for _, p := range placements(y, l) {
			for i := range l {
				fewer, rest, e := pen.Take(y, l, p, i)
				want(t, "Take", fewer, e, less(l, i), api.OK)
				want(t, "Take", rest, e, less(p, i), api.OK)
				wantErrno(t, "placed", pen.CheckPlace(y, fewer, rest), api.OK)
			}
		}
	})
}

// P5.5: what Take left gets its beast back by Add, in a pen that is at most the one in which it stood.
func TestTakeAndAdd(t *testing.T) {
	each(300, func(_ *rand.Rand, y api.Yard, l []int) {
		for _, p := range placements(y, l) {
			for i := range l {
				fewer, rest, e := pen.Take(y, l, p, i)
				wantErrno(t, "Take", e, api.OK)
				to, e := pen.Add(y, fewer, rest, l[i])
				if e != api.OK || to > p[i] || pen.CheckPlace(y, append(fewer, l[i]), append(rest, to)) != api.OK {
					t.Error(y, l, p, i, to, e)
				}
			}
		}
	})
}
