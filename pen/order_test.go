package pen_test

import (
	"fmt"
	"math/rand/v2"
	"slices"
	"testing"

	"pinfold/api"
	"pinfold/pen"
)

// P5.3: each placement that Nth returns is accepted, and ahead of the next one; none that is accepted is ahead of Place's.
func TestOrder(t *testing.T) {
	each(500, func(_ *rand.Rand, y api.Yard, l []int) {
		n, e := pen.Count(y, l)
		wantErrno(t, "Count", e, api.OK)
		if n == 0 {
			return
		}
		first := mustPlace(t, y, l)
		var last []int
		for i := range n {
			p, e := pen.Nth(y, l, i)
			wantErrno(t, "Nth", e, api.OK)
			wantErrno(t, "CheckPlace", pen.CheckPlace(y, l, p), api.OK)
			if i == 0 && !slices.Equal(p, first) || i > 0 && slices.Compare(last, p) >= 0 {
				t.Error(y, l, i, last, p)
			}
			last = p
		}
		for _, p := range lists(len(l), len(y.Pens)) {
			if slices.Compare(p, first) < 0 && pen.CheckPlace(y, l, p) == api.OK {
				t.Error(y, l, p)
			}
		}
	})
}

// P5.4: two beasts of one sort may change places.
func TestExchange(t *testing.T) {
	each(500, func(_ *rand.Rand, y api.Yard, l []int) {
		for _, p := range placements(y, l) {
			for i := range l {
				for j := range i {
					if l[i] == l[j] {
						p := slices.Clone(p)
						p[i], p[j] = p[j], p[i]
						wantErrno(t, fmt.Sprint(y, l, p), pen.CheckPlace(y, l, p), api.OK)
					}
				}
			}
		}
	})
}

// P5.4: in another order the same beasts have as many placements.
func TestOtherOrder(t *testing.T) {
	each(500, func(x *rand.Rand, y api.Yard, l []int) {
		n, e := pen.Count(y, l)
		wantErrno(t, "Count", e, api.OK)
		l = some(l, x.Perm(len(l)))
		m, e := pen.Count(y, l)
		want(t, fmt.Sprint("Count ", y, l), m, e, n, api.OK)
		_, e = pen.Place(y, l)
		if (e == api.OK) != (n > 0) {
			t.Error(y, l, n, e)
		}
	})
	y := free(8, 8, 8, 8, 8)
	y.Kinds = append(y.Kinds, api.Kind{Sort: 2, Room: 8})
	for _, l := range [][]int{{1, 1, 1, 1, 1, 2, 2}, {2, 1, 1, 2, 1, 1, 1}} {
		n, e := pen.Count(y, l)
		want(t, "more than are counted", n, e, api.MaxPlaces, api.OK)
	}
}

// easier has yards in which more can be placed: with a pen more at any place, with more room in one, with one sort less that must stand apart.
func easier(x *rand.Rand, y api.Yard) []api.Yard {
	var l []api.Yard
	for i := range len(y.Pens) + 1 {
		c := cloneYard(y)
		c.Pens = slices.Insert(c.Pens, i, x.IntN(5))
		l = append(l, c)
	}
	for i := range y.Pens {
		c := cloneYard(y)
		c.Pens[i] += 1 + x.IntN(3)
		l = append(l, c)
	}
	for i := range y.Kinds {
		for sort := 1; sort <= api.MaxSort; sort++ {
			c := cloneYard(y)
			c.Kinds[i].Apart &^= 1 << sort
			l = append(l, c)
		}
	}
	return l
}

// P5.5: what has a placement still has one where more room is, or fewer sorts must stand apart.
func TestEasier(t *testing.T) {
	each(500, func(x *rand.Rand, y api.Yard, l []int) {
		if len(placements(y, l)) == 0 {
			return
		}
		for _, c := range easier(x, y) {
			mustPlace(t, c, l)
		}
	})
}

// P5.6: no placement uses fewer pens than Fewest's.
func TestNoFewer(t *testing.T) {
	each(500, func(_ *rand.Rand, y api.Yard, l []int) {
		fewest, e := pen.Fewest(y, l)
		if e != api.OK {
			return
		}
		wantErrno(t, "CheckPlace", pen.CheckPlace(y, l, fewest), api.OK)
		for _, p := range lists(len(l), len(y.Pens)) {
			if pen.CheckPlace(y, l, p) == api.OK && used(p) < used(fewest) {
				t.Error(y, l, p, fewest)
			}
		}
	})
}
