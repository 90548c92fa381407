package pen_test

import (
	"fmt"
	"math/rand/v2"
	"slices"
	"testing"

	"pinfold/api"
	"pinfold/pen"
)

// example is the yard Y of the chapter's examples.
func example() api.Yard {
	return api.Yard{
		Pens: []int{10, 6, 4},
		Kinds: []api.Kind{{Sort: 1, Room: 5, Eats: 8}, {Sort: 2, Room: 4, Eats: 6, Apart: 2}, {Sort: 3, Room: 1, Eats: 1},
			{Sort: 4, Room: 2, Eats: 3, Apart: 16}},
	}
}

// exampleStays are those of the chapter's examples.
func exampleStays() []api.Stay {
	return []api.Stay{{Sort: 1, In: 3, Out: 6}, {Sort: 2, In: 4, Out: -1}}
}

// fullYard has as much of all as a yard may have.
func fullYard() api.Yard {
	var y api.Yard
	for range api.MaxPens {
		y.Pens = append(y.Pens, api.MaxRoom)
	}
	for sort := 1; sort <= api.MaxSort; sort++ {
		y.Kinds = append(y.Kinds, api.Kind{Sort: sort, Room: api.MaxRoom, Eats: api.MaxEats, Apart: 1022})
	}
	return y
}

// fullStays are as many stays as may be, all for as long as may be.
func fullStays() []api.Stay {
	return slices.Repeat([]api.Stay{{Sort: 9, In: 0, Out: -1}}, api.MaxStays)
}

// free is a yard of one sort that eats 1 and takes room 1, with pens of so much room.
func free(rooms ...int) api.Yard {
	return api.Yard{Pens: rooms, Kinds: []api.Kind{{Sort: 1, Room: 1, Eats: 1}}}
}

// ring has eight sorts: the first five must each stand apart from two others of them, like neighbours in a ring, and the last three from all others. They need six pens, though never more than five of them must stand apart from each other.
func ring() (api.Yard, []int) {
	y := api.Yard{Pens: []int{96, 97, 98, 99, 100}}
	for sort := 1; sort <= 5; sort++ {
		y.Kinds = append(y.Kinds, api.Kind{Sort: sort, Room: sort, Apart: 1 << (1 + sort%5)})
	}
	for sort := 6; sort <= 8; sort++ {
		y.Kinds = append(y.Kinds, api.Kind{Sort: sort, Room: sort, Apart: (1<<sort - 1) &^ 1})
	}
	return y, []int{1, 2, 3, 4, 5, 6, 7, 8}
}

func cloneYard(y api.Yard) api.Yard {
	return api.Yard{Pens: slices.Clone(y.Pens), Kinds: slices.Clone(y.Kinds)}
}

func newRandom() *rand.Rand { return rand.New(rand.NewPCG(5, 7)) }

// randomYard has few pens and little room, so that beasts often do not fit.
func randomYard(x *rand.Rand) api.Yard {
	var y api.Yard
	for range x.IntN(5) {
		y.Pens = append(y.Pens, x.IntN(9))
	}
	for _, sort := range []int{1, 4, 9} {
		k := api.Kind{Sort: sort, Room: 1 + x.IntN(4), Eats: x.IntN(4)}
		for _, s := range []int{1, 4, 7, 9} {
			if x.IntN(6) == 0 {
				k.Apart += 1 << s
			}
		}
		y.Kinds = append(y.Kinds, k)
	}
	return y
}

// randomBeasts has few beasts, so that all lists of pens can be gone through.
func randomBeasts(x *rand.Rand, y api.Yard) []int {
	var l []int
	for range x.IntN(6) {
		l = append(l, y.Kinds[x.IntN(len(y.Kinds))].Sort)
	}
	return l
}

// each has random yards and beasts.
func each(times int, ask func(x *rand.Rand, y api.Yard, l []int)) {
	x := newRandom()
	for range times {
		y := randomYard(x)
		ask(x, y, randomBeasts(x, y))
	}
}

// kind is a yard's kind of a sort.
func kind(y api.Yard, sort int) api.Kind {
	for _, k := range y.Kinds {
		if k.Sort == sort {
			return k
		}
	}
	return api.Kind{}
}

// names reports whether the Apart of a sort's kind has another sort.
func names(y api.Yard, sort, other int) bool {
	n := kind(y, sort).Apart
	for range other {
		n /= 2
	}
	return n%2 == 1
}

func mustApart(y api.Yard, a, b int) bool { return names(y, a, b) || names(y, b, a) }

// taken is how much room beasts take.
func taken(y api.Yard, l []int) int {
	n := 0
	for _, sort := range l {
		n += kind(y, sort).Room
	}
	return n
}

// isPlaced is what the chapter says of a placement.
func isPlaced(y api.Yard, l, p []int) bool {
	if len(p) != len(l) {
		return false
	}
	for i, pen := range p {
		if pen < 0 || pen >= len(y.Pens) {
			return false
		}
		var room int
		for j, sort := range l {
			if p[j] == pen {
				room += kind(y, sort).Room
			}
			if p[j] == pen && i != j && mustApart(y, l[i], sort) {
				return false
			}
		}
		if room > y.Pens[pen] {
			return false
		}
	}
	return true
}

// lists has all lists of so many numbers from 0 to n - 1, in their order.
func lists(length, n int) [][]int {
	all := [][]int{nil}
	for range length {
		var longer [][]int
		for _, l := range all {
			for i := range n {
				longer = append(longer, append(slices.Clone(l), i))
			}
		}
		all = longer
	}
	return all
}

// placements has all placements, in their order.
func placements(y api.Yard, l []int) [][]int {
	return slices.DeleteFunc(lists(len(l), len(y.Pens)), func(p []int) bool { return !isPlaced(y, l, p) })
}

// used is how many pens a placement uses.
func used(p []int) int {
	p = slices.Clone(p)
	slices.Sort(p)
	return len(slices.Compact(p))
}

// subsets has all rising lists of numbers from 0 to n - 1, the empty one too, in their order.
func subsets(n int) [][]int {
	all := [][]int{nil}
	for i := range n {
		for _, l := range all[:len(all):len(all)] {
			all = append(all, append(slices.Clone(l), i))
		}
	}
	slices.SortFunc(all, slices.Compare)
	return all
}

// some has the sorts of some beasts.
func some(l, beasts []int) []int {
	var sorts []int
	for _, i := range beasts {
		sorts = append(sorts, l[i])
	}
	return sorts
}

// less is a list without the element of an index.
func less(l []int, i int) []int { return slices.Delete(slices.Clone(l), i, i+1) }

// one has a result and its error in one text.
func one[T any](x T, e api.Errno) string { return fmt.Sprint(x, " ", int(e)) }

func want[T any](t *testing.T, name string, got T, e api.Errno, wanted T, wantedE api.Errno) {
	t.Helper()
	if g, w := one(got, e), one(wanted, wantedE); g != w {
		t.Errorf("%s: %s; want %s", name, g, w)
	}
}

func wantErrno(t *testing.T, name string, e, wanted api.Errno) {
	t.Helper()
	if e != wanted {
		t.Errorf("%s: %d; want %d", name, e, wanted)
	}
}

// mustPlace is Place of what has a placement.
func mustPlace(t *testing.T, y api.Yard, l []int) []int {
	t.Helper()
	p, e := pen.Place(y, l)
	wantErrno(t, fmt.Sprint("Place ", y, l), e, api.OK)
	return p
}
