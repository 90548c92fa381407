package pen_test

import (
	"fmt"
	"math"
	"math/rand/v2"
	"slices"
	"testing"

	"pinfold/api"
	"pinfold/pen"
)

// roomOf is how much room all pens have.
func roomOf(y api.Yard) int {
	n := 0
	for _, room := range y.Pens {
		n += room
	}
	return n
}

// overflows reports whether beasts take more room than all pens have.
func overflows(y api.Yard, l []int) bool { return taken(y, l) > roomOf(y) }

// stuck reports whether beasts have no placement.
func stuck(y api.Yard, l []int) bool { return len(placements(y, l)) == 0 }

// isReason is what the chapter says of the Kinds of reasons.
func isReason(y api.Yard, l []int, r api.Refusal) bool {
	bad := stuck
	switch r.Kind {
	case api.TooBig:
		return len(r.Beasts) == 1 && (len(y.Pens) == 0 || kind(y, l[r.Beasts[0]]).Room > slices.Max(y.Pens))
	case api.TooMany:
		for _, i := range r.Beasts {
			for _, j := range r.Beasts {
				if i != j && !mustApart(y, l[i], l[j]) {
					return false
				}
			}
		}
		return len(r.Beasts) == len(y.Pens)+1
	case api.TooMuch:
		bad = overflows
	}
	for i := range r.Beasts {
		if bad(y, some(l, less(r.Beasts, i))) {
			return false
		}
	}
	return len(r.Beasts) > 0 && bad(y, some(l, r.Beasts))
}

// reasons has all reasons for beasts, by Kind, and then by their Beasts.
func reasons(y api.Yard, l []int) []api.Refusal {
	var all []api.Refusal
	for kind := api.TooBig; kind <= api.TooTight; kind++ {
		for _, beasts := range subsets(len(l)) {
			if r := (api.Refusal{Kind: kind, Beasts: beasts}); isReason(y, l, r) {
				all = append(all, r)
			}
		}
	}
	return all
}

// left is what is left of all beasts, when each one from the last on is left out if it is still bad without it.
func left(y api.Yard, l []int, bad func(y api.Yard, l []int) bool) []int {
	var beasts []int
	for i := range l {
		beasts = append(beasts, i)
	}
	for i := len(l) - 1; i >= 0; i-- {
		fewer := slices.DeleteFunc(slices.Clone(beasts), func(j int) bool { return j == i })
		if bad(y, some(l, fewer)) {
			beasts = fewer
		}
	}
	return beasts
}

// refusal is what the chapter says of Refuse, of beasts that have a reason.
func refusal(y api.Yard, l []int) api.Refusal {
	first := reasons(y, l)[0]
	switch first.Kind {
	case api.TooMuch:
		first.Beasts = left(y, l, overflows)
	case api.TooTight:
		first.Beasts = left(y, l, stuck)
	}
	return first
}

// P5.1: Refuse tells the reason that the chapter names, of each Kind; not just the first one of those that there are, either.
func TestRefuse(t *testing.T) {
	kinds, others := map[int]int{}, map[int]int{}
	each(2000, func(_ *rand.Rand, y api.Yard, l []int) {
		got, e := pen.Refuse(y, l)
		if !stuck(y, l) {
			want(t, fmt.Sprint("Refuse ", y, l), got, e, api.Refusal{}, api.ErrNone)
			return
		}
		wanted := refusal(y, l)
		want(t, fmt.Sprint("Refuse ", y, l), got, e, wanted, api.OK)
		kinds[wanted.Kind]++
		if !slices.Equal(wanted.Beasts, reasons(y, l)[0].Beasts) {
			others[wanted.Kind]++
		}
	})
	for kind := api.TooBig; kind <= api.TooTight; kind++ {
		if kinds[kind] < 5 || (others[kind] > 0) != (kind == api.TooMuch || kind == api.TooTight) {
			t.Error(kind, kinds, others)
		}
	}
}

// P5.2: there is either a placement that is accepted, or a reason that is.
func TestPlacedOrRefused(t *testing.T) {
	each(2000, func(_ *rand.Rand, y api.Yard, l []int) {
		p, placeE := pen.Place(y, l)
		r, refuseE := pen.Refuse(y, l)
		placed := placeE == api.OK && pen.CheckPlace(y, l, p) == api.OK && refuseE == api.ErrNone
		refused := placeE == api.ErrTight && refuseE == api.OK && pen.CheckRefusal(y, l, r) == api.OK
		if placed == refused {
			t.Error(y, l, p, placeE, r, refuseE)
		}
	})
}

// P5.1, P5.2: CheckRefusal accepts just the reasons, of all Kinds and lists of beasts, and only of beasts without a placement.
func TestCheckRefusal(t *testing.T) {
	accepted := map[int]int{}
	each(500, func(_ *rand.Rand, y api.Yard, l []int) {
		for kind := 0; kind <= api.TooTight+1; kind++ {
			for _, beasts := range subsets(len(l)) {
				r := api.Refusal{Kind: kind, Beasts: beasts}
				wanted := api.ErrRefusal
				if kind > 0 && kind <= api.TooTight && isReason(y, l, r) {
					wanted = api.OK
					accepted[kind]++
				}
				wantErrno(t, fmt.Sprint(y, l, r), pen.CheckRefusal(y, l, r), wanted)
				if wanted == api.OK && !stuck(y, l) {
					t.Error(y, l, r)
				}
			}
		}
	})
	for kind := api.TooBig; kind <= api.TooTight; kind++ {
		if accepted[kind] < 20 {
			t.Error(accepted)
		}
	}
}

// badRefusals are no reasons for four beasts of the sort 1 of the example, of which all four are a reason TooTight.
func badRefusals() []api.Refusal {
	all := []int{0, 1, 2, 3}
	l := []api.Refusal{{}, {Kind: api.TooTight}, {Kind: api.TooMuch, Beasts: []int{}}}
	for _, kind := range []int{0, 5, -1, math.MaxInt, math.MinInt, api.TooBig, api.TooMuch, api.TooMany} {
		l = append(l, api.Refusal{Kind: kind, Beasts: all})
	}
	for _, beasts := range [][]int{{0, 1, 2}, {1, 2, 3}, {3, 2, 1, 0}, {0, 1, 2, 4}, {-1, 0, 1, 2}, {0, 0, 1, 2, 3}, {0, 1, 2, 2}, {1, 1, 2, 3},
		{0, 1, 2, 3, 4}, {math.MinInt, 0, 1, math.MaxInt}, make([]int, 100000)} {
		for kind := api.TooBig; kind <= api.TooTight; kind++ {
			l = append(l, api.Refusal{Kind: kind, Beasts: beasts})
		}
	}
	return l
}

// P5.1: reasons of no Kind, and with beasts that there are not, that do not rise, or that are none.
func TestBadRefusals(t *testing.T) {
	y, l := example(), []int{1, 1, 1, 1}
	wantErrno(t, "good", pen.CheckRefusal(y, l, api.Refusal{Kind: api.TooTight, Beasts: []int{0, 1, 2, 3}}), api.OK)
	for _, r := range badRefusals() {
		wantErrno(t, fmt.Sprint(r.Kind), pen.CheckRefusal(y, l, r), api.ErrRefusal)
		wantErrno(t, "no beasts", pen.CheckRefusal(y, nil, r), api.ErrRefusal)
		wantErrno(t, "nothing", pen.CheckRefusal(api.Yard{}, nil, r), api.ErrRefusal)
	}
}

// P5.1: in a yard without pens each beast is too big, too many and too much.
func TestRefuseWithoutPens(t *testing.T) {
	y, l := api.Yard{Kinds: example().Kinds}, []int{3, 3, 1}
	got, e := pen.Refuse(y, l)
	want(t, "Refuse", got, e, api.Refusal{Kind: api.TooBig, Beasts: []int{0}}, api.OK)
	for i := range l {
		for kind := api.TooBig; kind <= api.TooTight; kind++ {
			wantErrno(t, fmt.Sprint(kind, i), pen.CheckRefusal(y, l, api.Refusal{Kind: kind, Beasts: []int{i}}), api.OK)
		}
	}
	wantErrno(t, "two", pen.CheckRefusal(y, l, api.Refusal{Kind: api.TooMany, Beasts: []int{0, 1}}), api.ErrRefusal)
	for _, y := range []api.Yard{{}, y} {
		got, e = pen.Refuse(y, nil)
		want(t, "no beasts", got, e, api.Refusal{}, api.ErrNone)
	}
}

// P5.1: a reason may be of more than the least Kind, and each has its edges.
func TestEdgesOfReasons(t *testing.T) {
	y := api.Yard{Pens: []int{5, 4}, Kinds: []api.Kind{{Sort: 1, Room: 3, Apart: 2}, {Sort: 2, Room: 5}, {Sort: 3, Room: 6}, {Sort: 4, Room: 1}}}
	for _, c := range []struct {
		l    []int
		want api.Refusal
	}{
		{[]int{4, 2, 1}, api.Refusal{}},                                                // 9 of 9, and a beast of 5 in the pen of 5
		{[]int{4, 3, 3}, api.Refusal{Kind: api.TooBig, Beasts: []int{1}}},              // 6 of 5: the first one
		{[]int{4, 2, 1, 4}, api.Refusal{Kind: api.TooMuch, Beasts: []int{0, 1, 2, 3}}}, // 10 of 9: without any one it is at most 9
		{[]int{4, 1, 1}, api.Refusal{}},                                                // two that stand apart, in two pens
		{[]int{1, 1, 1}, api.Refusal{Kind: api.TooMany, Beasts: []int{0, 1, 2}}},
		{[]int{2, 2}, api.Refusal{Kind: api.TooMuch, Beasts: []int{0, 1}}},
		{[]int{4, 4, 4, 4, 2}, api.Refusal{}},
	} {
		got, e := pen.Refuse(y, c.l)
		wanted := api.OK
		if c.want.Kind == 0 {
			wanted = api.ErrNone
		}
		want(t, fmt.Sprint("Refuse ", c.l), got, e, c.want, wanted)
	}
	l := []int{3, 1, 1, 1, 2}
	for _, r := range []api.Refusal{{Kind: api.TooBig, Beasts: []int{0}}, {Kind: api.TooTight, Beasts: []int{0}}, {Kind: api.TooMany, Beasts: []int{1, 2, 3}},
		{Kind: api.TooTight, Beasts: []int{1, 2, 3}}, {Kind: api.TooMuch, Beasts: []int{0, 4}}, {Kind: api.TooMuch, Beasts: []int{1, 2, 4}}} {
		wantErrno(t, fmt.Sprint(r), pen.CheckRefusal(y, l, r), api.OK)
	}
}

// P5.1: TooMany has the first list of beasts, of two that there are; the beast 0 must stand apart from the beast 1 alone, so that no list begins with it.
func TestTooManyOfEight(t *testing.T) {
	y := fullYard()
	for i := range y.Kinds {
		y.Kinds[i].Room, y.Kinds[i].Apart = 100, 0
	}
	y.Kinds[0].Apart = 1 << 2
	y.Kinds[2].Apart = 1<<2 | 1<<3 | 1<<9
	y.Kinds[8].Apart = 1<<9 | 1<<2
	l := []int{1, 2, 3, 3, 9, 9, 3, 9}
	got, e := pen.Refuse(y, l)
	want(t, "Refuse", got, e, api.Refusal{Kind: api.TooMany, Beasts: []int{1, 2, 3, 4, 5, 6}}, api.OK)
}

// P5.1, P5.2: eight beasts that have no placement, and have one without any one of them.
func TestTooTightOfEight(t *testing.T) {
	y, l := ring()
	got, e := pen.Refuse(y, l)
	want(t, "Refuse", got, e, api.Refusal{Kind: api.TooTight, Beasts: []int{0, 1, 2, 3, 4, 5, 6, 7}}, api.OK)
	wantErrno(t, "CheckRefusal", pen.CheckRefusal(y, l, got), api.OK)
}
