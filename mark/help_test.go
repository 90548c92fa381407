package mark_test

import (
	"math/rand/v2"
	"slices"
	"testing"

	"pinfold/api"
	"pinfold/mark"
)

// plainWear reads each sign as what it is.
var plainWear = api.Wear{1, 2, 4, 8, 16}

// wWear is the wear W of the chapter's examples.
var wWear = api.Wear{1, 3, 4, 24, 24}

// bookB is the mark book B of the chapter's examples.
func bookB() api.Marks {
	return api.Marks{Wear: wWear, Given: []api.Given{
		{Owner: 1},
		{Owner: 2, Mark: api.Mark{2}},
		{Owner: 3, Mark: api.Mark{3, 0, 0, 0, 0, 2}},
	}}
}

var readAll = api.Reading{31, 31, 31, 31, 31, 31}

// Values that are not valid, one for each way in which they may not be.
var (
	badWears = []api.Wear{{}, {2, 2, 4, 8, 16}, {1, 2, 4, 8, 15}, {1, 2, 4, 8, 32}, {33, 2, 4, 8, 16}, {-1, 2, 4, 8, 16}, {1, 2, 4, 8, 48}}
	badMarks = []api.Mark{{-1}, {5}, {0, 0, 0, 0, 0, 5}, {0, 0, 0, 0, 0, -1}, {1 << 62}}
	badSeen  = []api.Reading{{}, {1, 1, 1, 1, 1}, {0, 1, 1, 1, 1, 1}, {32, 1, 1, 1, 1, 1}, {1, 1, 1, 1, 1, -1}, {1, 1, 1, 1, 1, 1 << 62}}
	okSeen   = api.Reading{1, 1, 1, 1, 1, 1}
)

// badBooks are mark books that are not valid.
func badBooks() []api.Marks {
	l := []api.Marks{
		{},
		{Wear: api.Wear{1, 1, 4, 8, 16}},
		{Wear: wWear, False: -1},
		{Wear: wWear, False: 3},
		{Wear: wWear, Given: []api.Given{{Owner: 0}}},
		{Wear: wWear, Given: []api.Given{{Owner: -1}}},
		{Wear: wWear, Given: []api.Given{{Owner: 100}}},
		{Wear: wWear, Given: []api.Given{{Owner: 1, Mark: api.Mark{5}}}},
		{Wear: wWear, Given: []api.Given{{Owner: 2}, {Owner: 1, Mark: api.Mark{2}}}},
		{Wear: wWear, Given: []api.Given{{Owner: 2}, {Owner: 2, Mark: api.Mark{2}}}},
		{Wear: wWear, Given: []api.Given{{Owner: 1}, {Owner: 2}}},
		{Wear: wWear, Given: []api.Given{{Owner: 1}, {Owner: 2, Mark: api.Mark{1}}}},
		{Wear: wWear, Given: []api.Given{{Owner: 1}, {Owner: 2, Mark: api.Mark{2}}, {Owner: 3, Mark: api.Mark{1, 0}}}},
		{Wear: wWear, False: 1, Given: []api.Given{{Owner: 1}, {Owner: 2, Mark: api.Mark{2, 2}}}},
		{Wear: wWear, False: 2, Given: []api.Given{{Owner: 1}, {Owner: 2, Mark: api.Mark{2, 2, 2, 2}}}},
	}
	long := fullBook()
	long.Given = append(long.Given, api.Given{Owner: 99, Mark: api.Mark{4, 4, 4, 4, 4, 4}})
	return append(l, long)
}

// fullBook has as many marks as a mark book may have.
func fullBook() api.Marks {
	b := api.Marks{Wear: plainWear}
	for i := range api.MaxMarks {
		b.Given = append(b.Given, api.Given{Owner: i + 1, Mark: api.Mark{i / 25, i / 5 % 5, i % 5}})
	}
	return b
}

// equalBooks compares books; an empty list is nil.
func equalBooks(a, b api.Marks) bool {
	return a.Wear == b.Wear && a.False == b.False && slices.Equal(a.Given, b.Given)
}

// cloneBook is a copy that shares no memory.
func cloneBook(b api.Marks) api.Marks {
	b.Given = slices.Clone(b.Given)
	return b
}

func newRandom() *rand.Rand { return rand.New(rand.NewPCG(1, 2)) }

func randomWear(x *rand.Rand) api.Wear {
	var w api.Wear
	for sign := range w {
		w[sign] = 1<<sign | x.IntN(32)&x.IntN(32)&x.IntN(32)
	}
	return w
}

func randomMark(x *rand.Rand) api.Mark {
	var m api.Mark
	for i := range m {
		m[i] = x.IntN(api.Signs)
	}
	return m
}

func randomReading(x *rand.Rand) api.Reading {
	var r api.Reading
	for i := range r {
		r[i] = 1 + x.IntN(31)
	}
	return r
}

// randomBook adds random marks where that can be.
func randomBook(x *rand.Rand) api.Marks {
	b := api.Marks{Wear: randomWear(x), False: x.IntN(3)}
	for range 60 {
		if c, e := mark.Add(b, api.Given{Owner: 1 + x.IntN(99), Mark: randomMark(x)}); e == api.OK {
			b = c
		}
	}
	return b
}

// misses counts the places at which the reading has none of the worn signs of the mark.
func misses(w api.Wear, m api.Mark, r api.Reading) int {
	n := 0
	for i, s := range m {
		if w[s]&r[i] == 0 {
			n++
		}
	}
	return n
}

// sharpReadings calls f with each sharp reading.
func sharpReadings(f func(r api.Reading)) {
	for n := range 5 * 5 * 5 * 5 * 5 * 5 {
		var r api.Reading
		for i := range r {
			r[i] = 1 << (n % 5)
			n /= 5
		}
		f(r)
	}
}

// readingOf is a sharp reading of a worn mark, with so many places that may show anything.
func readingOf(x *rand.Rand, w api.Wear, m api.Mark, anything int) api.Reading {
	var picks []int
	for range api.Places {
		picks = append(picks, x.IntN(60))
	}
	r, _ := mark.Worn(w, m, picks)
	for _, i := range x.Perm(api.Places)[:anything] {
		r[i] = 1 << x.IntN(api.Signs)
	}
	return r
}

func wantOwners(t *testing.T, name string, got []int, e api.Errno, want []int, wantE api.Errno) {
	t.Helper()
	if !slices.Equal(got, want) || e != wantE {
		t.Errorf("%s: %v, %d; want %v, %d", name, got, e, want, wantE)
	}
}

func wantBook(t *testing.T, name string, got api.Marks, e api.Errno, want api.Marks, wantE api.Errno) {
	t.Helper()
	if !equalBooks(got, want) || e != wantE {
		t.Errorf("%s: %v, %d; want %v, %d", name, got, e, want, wantE)
	}
}
