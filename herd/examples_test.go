package herd_test

import (
	"testing"

	"pinfold/api"
	"pinfold/herd"
)

// P4.1: the rows of the chapter's examples that ask of one beast.
func TestExamplesOfBeasts(t *testing.T) {
	l := example()
	is, e := herd.Beast(l, 10, 7)
	want(t, "Beast", is, e, api.Beast{No: 10, Sort: 3, Owner: 1, Bearer: 2, Born: 1, Died: -1}, api.OK)
	for _, c := range []struct {
		no, day, known, want int
		e                    api.Errno
	}{{10, 6, 7, 2, api.OK}, {10, 12, 12, 0, api.OK}, {11, 4, 7, 0, api.ErrBeast}} {
		n, e := herd.Held(l, c.no, c.day, c.known)
		want(t, "Held", n, e, c.want, c.e)
	}
	for _, c := range []struct {
		no, known int
		want      []int
	}{{20, 6, []int{1, 2, 3}}, {20, 9, []int{3}}, {20, 14, []int{1, 2, 3}}, {10, 7, []int{1, 2, 3}}} {
		owners, e := herd.Bearers(bookB(), l, c.no, c.known)
		want(t, "Bearers", owners, e, c.want, api.OK)
	}
	beasts, e := herd.Line(l, 10, 7)
	want(t, "Line", beasts, e, []int{10, 11}, api.OK)
	items, e := herd.Rests(bookB(), l, 20, 9)
	want(t, "Rests", items, e, []api.Item{item(2), item(5)}, api.OK)
}

// P4.1: the other rows of the chapter's examples.
func TestExamplesOfAll(t *testing.T) {
	l := example()
	wrong, e := herd.Wrong(bookB(), l, 10)
	want(t, "Wrong", wrong, e, nil, api.OK)
	wrong, e = herd.Wrong(bookB(), l, 11)
	want(t, "Wrong", wrong, e, []int{11}, api.OK)
	for day, wanted := range map[int]int{6: 2, 7: 1} {
		n, e := herd.Count(l, 2, 3, day, day)
		want(t, "Count", n, e, wanted, api.OK)
	}
	alive, e := herd.Alive(l, 12, 12)
	want(t, "Alive", alive, e, []int{11, 20}, api.OK)
	moved, e := herd.Moved(bookB(), l, item(5), 9)
	want(t, "Moved", moved, e, []int{20}, api.OK)
	changed, e := herd.Changed(bookB(), l, 9, 10)
	want(t, "Changed", changed, e, []int{20}, api.OK)
	for no, wanted := range map[int]string{0: "10 3 2 0", 3: "20 31 1 1 1 1 31", 6: "20 3"} {
		text, e := herd.Write(l[no])
		want(t, "Write", text, e, wanted, api.OK)
	}
}
