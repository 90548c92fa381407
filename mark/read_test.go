package mark_test

import (
	"slices"
	"testing"

	"pinfold/api"
	"pinfold/mark"
)

// P1.1: Cost and Distance of examples, and their errors in order.
func TestCostAndDistance(t *testing.T) {
	for _, c := range []struct {
		a, b api.Mark
		want int
	}{
		{api.Mark{}, api.Mark{1}, 0},
		{api.Mark{2, 1}, api.Mark{3, 2}, 2},
		{api.Mark{3}, api.Mark{4}, 0},
		{api.Mark{}, api.Mark{2, 2, 2, 2, 2, 2}, 6},
		{api.Mark{1, 2, 3, 4, 1, 2}, api.Mark{1, 2, 3, 4, 1, 2}, 0},
	} {
		n, e := mark.Distance(wWear, c.a, c.b)
		back, f := mark.Distance(wWear, c.b, c.a)
		if n != c.want || back != c.want || e != api.OK || f != api.OK {
			t.Error(c, n, back, e, f)
		}
	}
	for _, c := range []struct {
		m    api.Mark
		r    api.Reading
		want int
	}{
		{api.Mark{3, 0, 0, 0, 0, 2}, api.Reading{16, 1, 1, 1, 1, 4}, 0},
		{api.Mark{}, api.Reading{16, 1, 1, 1, 1, 4}, 2},
		{api.Mark{}, readAll, 0},
		{api.Mark{}, api.Reading{30, 30, 30, 30, 30, 30}, 6},
		{api.Mark{1, 1, 1, 1, 1, 1}, okSeen, 0},
		{api.Mark{}, api.Reading{2, 1, 1, 1, 1, 1}, 1},
	} {
		if n, e := mark.Cost(wWear, c.m, c.r); n != c.want || e != api.OK {
			t.Error(c, n, e)
		}
	}
}

func TestErrorsOfPairs(t *testing.T) {
	good, bad, wear, seen := api.Mark{}, badMarks[0], badWears[0], badSeen[0]
	for _, c := range []struct {
		w    api.Wear
		a    api.Mark
		r    api.Reading
		want api.Errno
	}{{wear, bad, seen, api.ErrWear}, {wear, good, okSeen, api.ErrWear}, {wWear, bad, seen, api.ErrMark}, {wWear, good, seen, api.ErrSight}} {
		if n, e := mark.Cost(c.w, c.a, c.r); n != 0 || e != c.want {
			t.Error("Cost", c, n, e)
		}
	}
	for _, c := range []struct {
		w      api.Wear
		places int
		a, b   api.Mark
		want   api.Errno
	}{{wear, 3, bad, bad, api.ErrWear}, {wWear, 3, bad, good, api.ErrMark}, {wWear, 3, good, bad, api.ErrMark}} {
		if n, e := mark.Distance(c.w, c.a, c.b); n != 0 || e != c.want {
			t.Error("Distance", c, n, e)
		}
		if r, e := mark.Meet(c.w, c.places, c.a, c.b); r != (api.Reading{}) || e != c.want {
			t.Error("Meet", c, r, e)
		}
	}
	for _, places := range []int{-1, 3} {
		if r, e := mark.Meet(plainWear, places, good, api.Mark{1, 1, 1, 1, 1, 1}); r != (api.Reading{}) || e != api.ErrArg {
			t.Error(places, r, e)
		}
	}
}

// P1.2: two marks are apart exactly if no sharp reading has a cost of at most n with both; Meet returns one just where they are not.
func TestApart(t *testing.T) {
	x := newRandom()
	for range 40 {
		w, a, b := randomWear(x), randomMark(x), randomMark(x)
		for i := range a {
			if x.IntN(2) == 0 {
				a[i] = b[i]
			}
		}
		least := api.Places + 1
		sharpReadings(func(r api.Reading) { least = min(least, max(misses(w, a, r), misses(w, b, r))) })
		d, _ := mark.Distance(w, a, b)
		for n := range api.MaxFalse + 1 {
			if (d > 2*n) != (least > n) {
				t.Fatal(w, a, b, n, d, least)
			}
			checkMeet(t, w, n, a, b, least > n)
		}
	}
}

func checkMeet(t *testing.T, w api.Wear, n int, a, b api.Mark, apart bool) {
	t.Helper()
	r, e := mark.Meet(w, n, a, b)
	if apart {
		if e != api.ErrApart || r != (api.Reading{}) {
			t.Fatal(w, n, a, b, r, e)
		}
		return
	}
	for _, set := range r {
		if !slices.Contains([]int{1, 2, 4, 8, 16}, set) {
			t.Fatal("not sharp", r)
		}
	}
	if e != api.OK || misses(w, a, r) > n || misses(w, b, r) > n {
		t.Fatal(w, n, a, b, r, e)
	}
}

// P1.2: at the edges: distances of 2 n and of 2 n + 1.
func TestMeetEdges(t *testing.T) {
	for d := range api.Places + 1 {
		var a, b api.Mark
		for i := range d {
			b[i] = 2
		}
		for n := range api.MaxFalse + 1 {
			checkMeet(t, wWear, n, a, b, d > 2*n)
		}
	}
	checkMeet(t, wWear, 1, api.Mark{2}, api.Mark{3, 0, 0, 0, 0, 2}, false)
	checkMeet(t, wWear, 0, api.Mark{3, 1}, api.Mark{4, 0}, false)
	checkMeet(t, wWear, 0, api.Mark{2}, api.Mark{3, 0, 0, 0, 0, 2}, true)
}

// P1.1: Possible, also of marks that are not of the book.
func TestPossible(t *testing.T) {
	b := bookB()
	for _, c := range []struct {
		places int
		m      api.Mark
		r      api.Reading
		want   bool
	}{
		{0, api.Mark{}, okSeen, true},
		{0, api.Mark{1, 1, 1, 1, 1, 1}, okSeen, true},
		{0, api.Mark{2}, okSeen, false},
		{1, api.Mark{2}, okSeen, true},
		{1, api.Mark{2, 2}, okSeen, false},
		{2, api.Mark{2, 2}, okSeen, true},
		{2, api.Mark{2, 2, 2}, okSeen, false},
	} {
		book := api.Marks{Wear: b.Wear, False: c.places}
		if ok, e := mark.Possible(book, c.m, c.r); ok != c.want || e != api.OK {
			t.Error(c, ok, e)
		}
	}
	if ok, e := mark.Possible(b, badMarks[0], badSeen[0]); ok || e != api.ErrMark {
		t.Error(ok, e)
	}
	if ok, e := mark.Possible(b, api.Mark{}, badSeen[0]); ok || e != api.ErrSight {
		t.Error(ok, e)
	}
}

// P1.1: owners of readings.
func TestOwners(t *testing.T) {
	b := bookB()
	for _, c := range []struct {
		r     api.Reading
		want  []int
		owner int
		e     api.Errno
	}{
		{api.Reading{31, 1, 1, 1, 1, 31}, []int{1, 2, 3}, 0, api.ErrDoubt},
		{api.Reading{4, 1, 1, 1, 1, 1}, []int{2}, 2, api.OK},
		{api.Reading{4, 4, 1, 1, 1, 1}, nil, 0, api.ErrNone},
		{api.Reading{5, 1, 1, 1, 1, 31}, []int{1, 2}, 0, api.ErrDoubt},
		{api.Reading{16, 1, 1, 1, 1, 4}, []int{3}, 3, api.OK},
	} {
		l, e := mark.Owners(b, c.r)
		wantOwners(t, "Owners", l, e, c.want, api.OK)
		if o, e := mark.Owner(b, c.r); o != c.owner || e != c.e {
			t.Error(c, o, e)
		}
	}
	l, e := mark.Owners(api.Marks{Wear: wWear}, readAll)
	wantOwners(t, "empty book", l, e, nil, api.OK)
	if o, e := mark.Owner(api.Marks{Wear: wWear}, readAll); o != 0 || e != api.ErrNone {
		t.Error(o, e)
	}
	for _, r := range badSeen {
		l, e := mark.Owners(b, r)
		wantOwners(t, "bad reading", l, e, nil, api.ErrSight)
		if o, e := mark.Owner(b, r); o != 0 || e != api.ErrSight {
			t.Error(o, e)
		}
	}
}

// P1.1: owners of several readings, at the limit and one beyond it.
func TestOf(t *testing.T) {
	b := bookB()
	l, e := mark.Of(b, nil)
	wantOwners(t, "nil", l, e, []int{1, 2, 3}, api.OK)
	l, e = mark.Of(b, []api.Reading{})
	wantOwners(t, "empty", l, e, []int{1, 2, 3}, api.OK)
	l, e = mark.Of(b, []api.Reading{{31, 1, 1, 1, 1, 31}, {5, 1, 1, 1, 1, 1}})
	wantOwners(t, "two", l, e, []int{1, 2}, api.OK)
	l, e = mark.Of(b, []api.Reading{{4, 1, 1, 1, 1, 1}, {1, 1, 1, 1, 1, 1}})
	wantOwners(t, "none of both", l, e, nil, api.OK)
	many := slices.Repeat([]api.Reading{okSeen}, api.MaxSeen)
	l, e = mark.Of(b, many)
	wantOwners(t, "as many as may be", l, e, []int{1}, api.OK)
	l, e = mark.Of(b, append(many, badSeen[0]))
	wantOwners(t, "too many", l, e, nil, api.ErrLong)
	many[api.MaxSeen-1] = badSeen[0]
	l, e = mark.Of(b, many)
	wantOwners(t, "a bad one", l, e, nil, api.ErrSight)
}

// P1.3: whatever is read of a worn mark with at most False false places has its owner among the possible ones; a sharp reading has nobody else.
func TestReadAright(t *testing.T) {
	x := newRandom()
	for range 60 {
		b := randomBook(x)
		for _, g := range b.Given {
			sharp := readingOf(x, b.Wear, g.Mark, b.False)
			if o, e := mark.Owner(b, sharp); o != g.Owner || e != api.OK {
				t.Fatal(b, g, sharp, o, e)
			}
			for i := range sharp {
				sharp[i] |= x.IntN(32)
			}
			if l, e := mark.Owners(b, sharp); !slices.Contains(l, g.Owner) || !slices.IsSorted(l) || e != api.OK {
				t.Fatal(b, g, sharp, l, e)
			}
		}
	}
}

// P1.4: with fewer signs a reading has no more possible owners, and all readings of a beast have its bearer.
func TestSets(t *testing.T) {
	x := newRandom()
	for range 60 {
		b := randomBook(x)
		wide := randomReading(x)
		narrow := wide
		for i := range narrow {
			if set := wide[i] & x.IntN(32); set != 0 {
				narrow[i] = set
			}
		}
		all, _ := mark.Owners(b, wide)
		some, e := mark.Owners(b, narrow)
		for _, o := range some {
			if !slices.Contains(all, o) || e != api.OK {
				t.Fatal(b, wide, narrow, all, some, e)
			}
		}
		for _, g := range b.Given {
			checkBearer(t, b, g, []api.Reading{readAll, readingOf(x, b.Wear, g.Mark, b.False), readingOf(x, b.Wear, g.Mark, b.False)})
		}
	}
}

func checkBearer(t *testing.T, b api.Marks, g api.Given, readings []api.Reading) {
	t.Helper()
	if l, e := mark.Of(b, readings); !slices.Equal(l, []int{g.Owner}) || e != api.OK {
		t.Fatal(b, g, readings, l, e)
	}
	if l, e := mark.Of(b, readings[:1]); !slices.Contains(l, g.Owner) || len(l) != len(b.Given) || e != api.OK {
		t.Fatal(b, g, l, e)
	}
}
