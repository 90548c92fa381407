package mark_test

import (
	"slices"
	"testing"

	"pinfold/api"
	"pinfold/mark"
)

// P1.1: Worn chooses with its picks, one after the other.
func TestWorn(t *testing.T) {
	big := 1<<63 - 1
	for _, c := range []struct {
		m     api.Mark
		picks []int
		want  api.Reading
	}{
		{api.Mark{3, 1}, []int{1, 0}, api.Reading{16, 1, 1, 1, 1, 1}},
		{api.Mark{1, 1, 1, 1, 1, 1}, nil, okSeen},
		{api.Mark{1, 1, 1, 1, 1, 1}, []int{}, okSeen},
		{api.Mark{1, 1, 1, 1, 1, 1}, []int{1}, api.Reading{2, 2, 2, 2, 2, 2}},
		{api.Mark{1, 1, 1, 1, 1, 1}, []int{0, 1, 2}, api.Reading{1, 2, 1, 1, 2, 1}},
		{api.Mark{1, 1, 1, 1, 1, 1}, []int{-1, -2, -3, -big - 1, big}, api.Reading{2, 1, 2, 1, 2, 2}},
		{api.Mark{0, 3, 0, 3, 0, 3}, []int{0, 1, 1}, api.Reading{1, 16, 1, 8, 1, 16}},
		{api.Mark{3, 3, 3, 3, 3, 3}, []int{0, 1, 0, 1, 0, 1, 5, 5}, api.Reading{8, 16, 8, 16, 8, 16}},
	} {
		if r, e := mark.Worn(wWear, c.m, c.picks); r != c.want || e != api.OK {
			t.Error(c, r, e)
		}
	}
	three := api.Wear{1, 2, 21, 8, 16}
	if r, e := mark.Worn(three, api.Mark{2, 2, 2, 2, 2, 2}, []int{0, 1, 2, 3, -1, -3}); r != (api.Reading{1, 4, 16, 1, 16, 1}) || e != api.OK {
		t.Error(r, e)
	}
	if r, e := mark.Worn(badWears[0], badMarks[0], nil); r != (api.Reading{}) || e != api.ErrWear {
		t.Error(r, e)
	}
	if r, e := mark.Worn(wWear, badMarks[0], nil); r != (api.Reading{}) || e != api.ErrMark {
		t.Error(r, e)
	}
}

// P1.1: Look of examples, and where there is nothing to look at.
func TestLook(t *testing.T) {
	crossed := api.Marks{Wear: plainWear, Given: []api.Given{
		{Owner: 1, Mark: api.Mark{0, 0, 0, 0, 0, 1}},
		{Owner: 2, Mark: api.Mark{0, 1, 0, 1, 0, 0}},
		{Owner: 3, Mark: api.Mark{0, 1, 0, 0, 1, 0}},
	}}
	for _, c := range []struct {
		b    api.Marks
		r    api.Reading
		want []int
	}{
		{bookB(), api.Reading{31, 1, 1, 1, 1, 31}, []int{0}},
		{bookB(), api.Reading{4, 1, 1, 1, 1, 1}, nil},
		{bookB(), api.Reading{4, 4, 1, 1, 1, 1}, nil},
		{api.Marks{Wear: wWear}, readAll, nil},
		{crossed, readAll, []int{1, 3}},
		{crossed, api.Reading{1, 2, 1, 3, 3, 3}, []int{3}},
		{crossed, api.Reading{1, 3, 1, 3, 1, 3}, []int{1}},
	} {
		l, e := mark.Look(c.b, c.r)
		wantOwners(t, "Look", l, e, c.want, api.OK)
	}
	l, e := mark.Look(bookB(), badSeen[0])
	wantOwners(t, "Look", l, e, nil, api.ErrSight)
}

// P1.1: CheckLook and Looked take lists of places only.
func TestBadPlaces(t *testing.T) {
	b, r := bookB(), api.Reading{31, 1, 1, 1, 1, 31}
	for _, places := range [][]int{{-1}, {6}, {0, 6}, {0, 0}, {1, 0}, {-1, 0}, {0, 1, 2, 3, 4, 5, 5}, {0, 1, 2, 3, 4, 5, 6}, {1 << 62}} {
		if e := mark.CheckLook(b, r, places); e != api.ErrLook {
			t.Error(places, e)
		}
		l, e := mark.Looked(b, r, readAll, places)
		wantOwners(t, "Looked", l, e, nil, api.ErrLook)
		if e := mark.CheckLook(b, badSeen[0], places); e != api.ErrSight {
			t.Error(places, e)
		}
		l, e = mark.Looked(b, badSeen[0], readAll, places)
		wantOwners(t, "Looked", l, e, nil, api.ErrSight)
		l, e = mark.Looked(b, r, badSeen[0], places)
		wantOwners(t, "Looked", l, e, nil, api.ErrSight)
	}
}

// P1.1: which places settle.
func TestCheckLook(t *testing.T) {
	b, r := bookB(), api.Reading{31, 1, 1, 1, 1, 31}
	for _, places := range [][]int{{0}, {0, 3}, {0, 5}, {0, 1, 2, 3, 4, 5}} {
		if e := mark.CheckLook(b, r, places); e != api.OK {
			t.Error(places, e)
		}
	}
	for _, places := range [][]int{nil, {}, {5}, {1, 2, 3, 4, 5}} {
		if e := mark.CheckLook(b, r, places); e != api.ErrLook {
			t.Error(places, e)
		}
	}
	if e := mark.CheckLook(b, api.Reading{4, 1, 1, 1, 1, 1}, nil); e != api.OK {
		t.Error(e)
	}
	if e := mark.CheckLook(b, api.Reading{5, 1, 1, 1, 1, 1}, []int{5}); e != api.ErrLook {
		t.Error(e)
	}
}

// P1.1: Looked of examples; only what is seen at the places counts.
func TestLooked(t *testing.T) {
	b, r := bookB(), api.Reading{31, 1, 1, 1, 1, 31}
	for _, c := range []struct {
		again  api.Reading
		places []int
		want   []int
	}{
		{api.Reading{16, 1, 1, 1, 1, 1}, []int{0}, []int{3}},
		{api.Reading{16, 1, 1, 1, 1, 1}, []int{0, 5}, nil},
		{api.Reading{16, 1, 1, 1, 1, 4}, []int{0, 5}, []int{3}},
		{api.Reading{21, 1, 1, 1, 1, 1}, []int{0}, []int{1, 2, 3}},
		{api.Reading{2, 2, 2, 2, 2, 2}, nil, []int{1, 2, 3}},
		{api.Reading{2, 2, 2, 2, 2, 2}, []int{0}, nil},
		{api.Reading{2, 2, 2, 2, 2, 1}, []int{5}, []int{1, 2}},
	} {
		l, e := mark.Looked(b, r, c.again, c.places)
		wantOwners(t, "Looked", l, e, c.want, api.OK)
	}
	l, e := mark.Looked(b, api.Reading{5, 1, 1, 1, 1, 31}, readAll, []int{0})
	wantOwners(t, "of the first reading", l, e, []int{1, 2}, api.OK)
}

// P1.6: Look's places settle the reading, no fewer do, and of as many they are the first ones; looking again finds the bearer and nobody else.
func TestLookingAgain(t *testing.T) {
	x := newRandom()
	for range 40 {
		b := randomBook(x)
		r := randomReading(x)
		for i := range r {
			r[i] |= randomReading(x)[i]
		}
		places, e := mark.Look(b, r)
		if e != api.OK || mark.CheckLook(b, r, places) != api.OK {
			t.Fatal(b, r, places, e)
		}
		for set := range 1 << api.Places {
			l := listOf(set)
			ahead := len(l) < len(places) || len(l) == len(places) && slices.Compare(l, places) < 0
			if ahead && mark.CheckLook(b, r, l) != api.ErrLook {
				t.Fatal(b, r, places, l)
			}
		}
		owners, _ := mark.Owners(b, r)
		for _, o := range owners {
			checkLooked(t, b, r, places, o, readingOf(x, b.Wear, markOf(b, o), 0))
		}
	}
}

// listOf has the places of a set.
func listOf(set int) []int {
	var l []int
	for i := range api.Places {
		if set>>i&1 == 1 {
			l = append(l, i)
		}
	}
	return l
}

func markOf(b api.Marks, owner int) api.Mark {
	m, _ := mark.MarkOf(b, owner)
	return m
}

func checkLooked(t *testing.T, b api.Marks, r api.Reading, places []int, owner int, again api.Reading) {
	t.Helper()
	for i := range again {
		if !slices.Contains(places, i) {
			again[i] = 1 << (owner % api.Signs)
		}
	}
	if l, e := mark.Looked(b, r, again, places); !slices.Equal(l, []int{owner}) || e != api.OK {
		t.Fatal(b, r, again, places, owner, l, e)
	}
	for i := range again {
		again[i] |= 1 << (i % api.Signs)
	}
	if l, e := mark.Looked(b, r, again, places); !slices.Contains(l, owner) || e != api.OK {
		t.Fatal(b, r, again, places, owner, l, e)
	}
}
