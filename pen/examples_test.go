package pen_test

import (
	"slices"
	"testing"

	"pinfold/api"
	"pinfold/pen"
)

// P5.1: the rows of the chapter's examples that place beasts.
func TestExamplesOfPlacing(t *testing.T) {
	y, l, p := example(), []int{1, 1, 2}, []int{0, 0, 1}
	got, e := pen.Place(y, l)
	want(t, "Place", got, e, p, api.OK)
	n, e := pen.Count(y, l)
	want(t, "Count", n, e, 4, api.OK)
	for _, c := range []struct {
		a, b int
		want bool
	}{{1, 2, true}, {2, 2, false}, {4, 4, true}} {
		apart, e := pen.Apart(y, c.a, c.b)
		want(t, "Apart", apart, e, c.want, api.OK)
	}
	got, e = pen.Free(y, l, p)
	want(t, "Free", got, e, []int{0, 2, 4}, api.OK)
	n, e = pen.Add(y, l, p, 3)
	want(t, "Add 3", n, e, 1, api.OK)
	n, e = pen.Add(y, l, p, 1)
	want(t, "Add 1", n, e, 0, api.ErrTight)
	got, e = pen.Move(y, l, p, 2, 2)
	want(t, "Move 2", got, e, []int{0, 0, 2}, api.OK)
	got, e = pen.Move(y, l, p, 0, 1)
	want(t, "Move 0", got, e, nil, api.ErrTight)
	for _, c := range []struct{ l, want []int }{{[]int{2, 3, 3}, []int{0, 0, 0}}, {[]int{1, 4, 4}, []int{0, 0, 1}}} {
		got, e := pen.Fewest(y, c.l)
		want(t, "Fewest", got, e, c.want, api.OK)
	}
	got, e = pen.Place(y, []int{2, 3, 3})
	want(t, "Place", got, e, []int{0, 0, 0}, api.OK)
}

// P5.1: the rows of the chapter's examples that refuse beasts.
func TestExamplesOfRefusing(t *testing.T) {
	for _, c := range []struct {
		l    []int
		want api.Refusal
	}{
		{[]int{1, 1, 1, 1}, api.Refusal{Kind: api.TooTight, Beasts: []int{0, 1, 2, 3}}},
		{[]int{4, 4, 4, 4}, api.Refusal{Kind: api.TooMany, Beasts: []int{0, 1, 2, 3}}},
		{[]int{1, 1, 1, 2, 2}, api.Refusal{Kind: api.TooMuch, Beasts: []int{0, 1, 2, 3, 4}}},
		{[]int{1, 1, 1, 2, 3, 3, 2}, api.Refusal{Kind: api.TooMuch, Beasts: []int{0, 1, 2, 3, 4, 5}}},
	} {
		got, e := pen.Refuse(example(), c.l)
		want(t, "Refuse", got, e, c.want, api.OK)
		wantErrno(t, "CheckRefusal", pen.CheckRefusal(example(), c.l, c.want), api.OK)
	}
}

// P5.1: the rows of the chapter's examples with stays.
func TestExamplesOfStays(t *testing.T) {
	y, l := example(), exampleStays()
	for day, wanted := range map[int][]int{4: {0, 1}, 6: {1}} {
		got, e := pen.There(y, l, day)
		want(t, "There", got, e, wanted, api.OK)
	}
	n, e := pen.Eaten(y, l, 5)
	want(t, "Eaten", n, e, 36, api.OK)
	for fodder, wanted := range map[int]int{36: 5, 41: 5, 42: 6} {
		n, e := pen.Lasts(y, l, fodder)
		want(t, "Lasts", n, e, wanted, api.OK)
	}
	more := api.Stay{Sort: 1, In: 5, Out: 9}
	n, e = pen.Full(y, slices.Concat(l, []api.Stay{more, more, {Sort: 4, In: 5, Out: 6}}))
	want(t, "Full", n, e, 5, api.OK)
}

// P5.1: the example of the document that puts pens and beasts into a yard.
func TestExampleOfTheDocument(t *testing.T) {
	y := api.Yard{Pens: []int{10}, Kinds: []api.Kind{{Sort: 1, Room: 4, Eats: 20}}}
	got, e := pen.Place(y, []int{1, 1})
	want(t, "Place", got, e, []int{0, 0}, api.OK)
}
