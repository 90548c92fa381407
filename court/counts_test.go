package court_test

import (
	"fmt"
	"math/rand/v2"
	"slices"
	"testing"

	"pinfold/api"
	"pinfold/court"
	"pinfold/drive"
)

// manyMarks is a mark book of so many owners, from 1 on: each has another sign at the last two places.
func manyMarks(owners int) api.Marks {
	m := api.Marks{Wear: api.Wear{1, 2, 4, 8, 16}}
	for i := range owners {
		m.Given = append(m.Given, api.Given{Owner: 1 + i, Mark: api.Mark{4: i / 5, 5: i % 5}})
	}
	return m
}

// ev is an event of the manor 0, known on its day.
func ev(no, kind, day, beast int) api.Event {
	return api.Event{At: item(0, no), Kind: kind, Day: day, Known: day, Beast: beast}
}

func born(no, day, beast, sort, owner int) api.Event {
	x := ev(no, api.EvBorn, day, beast)
	x.Sort, x.Owner = sort, owner
	return x
}

func stray(no, day, beast, sort int) api.Event {
	x := ev(no, api.EvStray, day, beast)
	x.Sort = sort
	return x
}

// seen is a reading that leaves the last two places open to these signs.
func seen(no, day, beast, fifth, sixth int) api.Event {
	x := ev(no, api.EvSeen, day, beast)
	x.Seen = api.Reading{1, 1, 1, 1, fifth, sixth}
	return x
}

func found(no, day, beast, owner int) api.Event {
	x := ev(no, api.EvFound, day, beast)
	x.Owner = owner
	return x
}

// lives are those of the beasts 1 to 8: 1 is of the owner 1, 2 of 2, who had it from 1 on the day 6; 3 was a stray, and is of 3 by the court from the day 7 on; 4 may be of 1 to 5, 5 of 6 alone, 6 of nobody, 7 of all; 8 died on the day 8.
func lives() []api.Event {
	sold := ev(2, api.EvSold, 6, 2)
	sold.Owner = 2
	return []api.Event{
		born(0, 1, 1, 1, 1), born(1, 1, 2, 1, 1), sold, stray(3, 2, 3, 1), seen(4, 2, 3, 1, 12), found(5, 7, 3, 3), stray(6, 2, 4, 1), seen(7, 3, 4, 1, 31),
		stray(8, 2, 5, 2), seen(9, 2, 5, 2, 1), stray(10, 2, 6, 2), seen(11, 2, 6, 16, 1), stray(12, 2, 7, 3), born(13, 1, 8, 1, 1), ev(14, api.EvDied, 8, 8),
	}
}

func counted(no, sort int, owners ...int) api.Counted {
	return api.Counted{Source: no, Beast: no, Sort: sort, Owners: owners}
}

// P10.2: who may own what was counted, and how many beasts each one has at most.
func TestCounts(t *testing.T) {
	all := []int{1, 2, 3, 4, 5, 6, 7, 8, 9}
	for _, c := range []struct {
		name       string
		beasts     []int
		day, known int
		want       api.Drive
	}{
		{"all", all, 8, 8, api.Drive{
			Beasts: []api.Counted{counted(1, 1, 1), counted(2, 1, 2), counted(3, 1, 3), counted(4, 1, 1, 2, 3, 4, 5), counted(5, 2, 6)},
			Stocks: []api.Stock{{Owner: 1, Sort: 1, Most: 2}, {Owner: 2, Sort: 1, Most: 2}, {Owner: 3, Sort: 1, Most: 2}, {Owner: 4, Sort: 1, Most: 1}, {Owner: 5, Sort: 1, Most: 1}, {Owner: 6, Sort: 2, Most: 1}},
		}},
		{"as known earlier, when the beast 8 was there, and 3 may have been of 3 or 4", all, 5, 5, api.Drive{
			Beasts: []api.Counted{counted(1, 1, 1), counted(2, 1, 1), counted(3, 1, 3, 4), counted(4, 1, 1, 2, 3, 4, 5), counted(5, 2, 6), counted(8, 1, 1)},
			Stocks: []api.Stock{{Owner: 1, Sort: 1, Most: 4}, {Owner: 2, Sort: 1, Most: 1}, {Owner: 3, Sort: 1, Most: 2}, {Owner: 4, Sort: 1, Most: 2}, {Owner: 5, Sort: 1, Most: 1}, {Owner: 6, Sort: 2, Most: 1}},
		}},
		{"of an earlier day, as known later", all, 5, 8, api.Drive{
			Beasts: []api.Counted{counted(1, 1, 1), counted(2, 1, 1), counted(3, 1, 3, 4), counted(4, 1, 1, 2, 3, 4, 5), counted(5, 2, 6), counted(8, 1, 1)},
			Stocks: []api.Stock{{Owner: 1, Sort: 1, Most: 4}, {Owner: 2, Sort: 1, Most: 1}, {Owner: 3, Sort: 1, Most: 2}, {Owner: 4, Sort: 1, Most: 2}, {Owner: 5, Sort: 1, Most: 1}, {Owner: 6, Sort: 2, Most: 1}},
		}},
		{"readings of a later day, as known later", []int{4}, 2, 3, api.Drive{
			Beasts: []api.Counted{counted(4, 1, 1, 2, 3, 4, 5)},
			Stocks: []api.Stock{{Owner: 1, Sort: 1, Most: 4}, {Owner: 2, Sort: 1, Most: 1}, {Owner: 3, Sort: 1, Most: 1}, {Owner: 4, Sort: 1, Most: 1}, {Owner: 5, Sort: 1, Most: 1}},
		}},
		{"nothing was read", []int{4}, 2, 2, api.Drive{Stocks: []api.Stock{{Owner: 1, Sort: 1, Most: 3}}}},
		{"each once", []int{5, 5, 1, 5, 1}, 8, 8, api.Drive{
			Beasts: []api.Counted{counted(1, 1, 1), counted(5, 2, 6)},
			Stocks: []api.Stock{{Owner: 1, Sort: 1, Most: 1}, {Owner: 2, Sort: 1, Most: 1}, {Owner: 3, Sort: 1, Most: 1}, {Owner: 6, Sort: 2, Most: 1}},
		}},
		{"none", nil, 8, 8, api.Drive{Stocks: []api.Stock{{Owner: 1, Sort: 1, Most: 1}, {Owner: 2, Sort: 1, Most: 1}, {Owner: 3, Sort: 1, Most: 1}}}},
		{"before all", all, 0, 0, api.Drive{}},
	} {
		got, e := court.Counts(manyMarks(10), lives(), c.beasts, c.day, c.known)
		want(t, c.name, got, e, c.want, api.OK)
		got, e = retoldCounts(manyMarks(10), lives(), c.beasts, c.day, c.known)
		want(t, c.name+" retold", got, e, c.want, api.OK)
	}
}

// P10.2: a beast that may be of more than eight owners is left out, but not one that is held by one.
func TestCountsOfManyOwners(t *testing.T) {
	for owners := range 12 {
		l := []api.Event{stray(0, 1, 1, 1), stray(1, 1, 2, 1), found(2, 1, 2, 50)}
		got, e := court.Counts(manyMarks(owners), l, []int{1, 2}, 1, 1)
		wanted, wantedE := retoldCounts(manyMarks(owners), l, []int{1, 2}, 1, 1)
		want(t, fmt.Sprint(owners), got, e, wanted, wantedE)
		beasts := 2
		if owners == 0 || owners > 8 {
			beasts = 1
		}
		if len(got.Beasts) != beasts || len(got.Stocks) != 1+owners*(beasts-1) {
			t.Error(owners, got)
		}
	}
}

// randomLives are valid.
func randomLives(x *rand.Rand) []api.Event {
	var l []api.Event
	for no := range x.IntN(50) {
		beast, day := 1+x.IntN(12), x.IntN(8)
		y := []api.Event{
			born(no, day, beast, 1+x.IntN(3), 1+x.IntN(6)), stray(no, day, beast, 1+x.IntN(3)), stray(no, day, beast, 1+x.IntN(3)), stray(no, 0, beast, 1+x.IntN(3)),
			seen(no, day, beast, 1+x.IntN(31), 1+x.IntN(31)), seen(no, day, beast, 1, 1+x.IntN(31)), seen(no, day, beast, 3, 31),
			found(no, day, beast, 1+x.IntN(6)), ev(no, api.EvDied, day+x.IntN(4), beast),
		}[x.IntN(9)]
		y.Known = x.IntN(10)
		if no > 0 && x.IntN(10) == 0 {
			y = api.Event{At: item(0, no), Known: x.IntN(10), Of: item(0, x.IntN(no))}
		}
		l = append(l, y)
	}
	return l
}

// P10.2: drives of random lives are as the chapter tells it; they are valid, and sound.
func TestCountsOfRandomLives(t *testing.T) {
	x := newRandom(6)
	beasts, several := 0, 0
	for range 160 {
		m, l := manyMarks(x.IntN(13)), randomLives(x)
		var counted []int
		for range x.IntN(20) {
			counted = append(counted, 1+x.IntN(14))
		}
		day, known := 1+x.IntN(9), 3+x.IntN(9)
		got, e := court.Counts(m, l, counted, day, known)
		wanted, wantedE := retoldCounts(m, l, counted, day, known)
		want(t, fmt.Sprint(m, l, counted, day, known), got, e, wanted, wantedE)
		if sound, e := drive.Sound(got); !sound || e != api.OK {
			t.Error(got, e)
		}
		for _, b := range got.Beasts {
			beasts++
			if len(b.Owners) > 1 {
				several++
			}
		}
	}
	if beasts < 150 || several < 60 {
		t.Error("too few beasts: ", beasts, several)
	}
}

// upTo are the numbers from 1 on.
func upTo(n int) []int {
	var l []int
	for i := range n {
		l = append(l, 1+i)
	}
	return l
}

// P10.2: of several errors the one named first is returned.
func TestCountsErrors(t *testing.T) {
	type arguments struct {
		m          api.Marks
		l          []api.Event
		beasts     []int
		day, known int
	}
	type fault struct {
		e    api.Errno
		make func(a *arguments)
	}
	near := manyMarks(3)
	near.Given[1].Mark = near.Given[0].Mark
	var faults []fault
	for _, m := range []api.Marks{{}, near, {Wear: api.Wear{1, 2, 4, 8, 16}, False: 3}} {
		faults = append(faults, fault{api.ErrMarks, func(a *arguments) { a.m = m }})
	}
	for _, l := range [][]api.Event{{born(0, 1, 1, 1, 1), born(0, 1, 1, 1, 1)}, {{Kind: 7}}, {{}}} {
		faults = append(faults, fault{api.ErrEvents, func(a *arguments) { a.l = l }})
	}
	for _, day := range append(outside(0, api.MaxDay), 1<<62, -1<<63) {
		faults = append(faults, fault{api.ErrDay, func(a *arguments) { a.known = day }})
	}
	for _, day := range append(outside(0, api.MaxDay), 1<<62, -1<<63) {
		faults = append(faults, fault{api.ErrDay, func(a *arguments) { a.day = day }})
	}
	for _, no := range append(outside(1, api.MaxBeast), 1<<62, -1<<63) {
		faults = append(faults, fault{api.ErrArg, func(a *arguments) { a.beasts = []int{no} }}, fault{api.ErrArg, func(a *arguments) { a.beasts = []int{1, no, 2} }},
			fault{api.ErrArg, func(a *arguments) { a.beasts = append(upTo(60), no) }}, fault{api.ErrArg, func(a *arguments) { a.beasts = append([]int{no}, upTo(60)...) }})
	}
	faults = append(faults, fault{api.ErrLong, func(a *arguments) { a.beasts = upTo(41) }}, fault{api.ErrLong, func(a *arguments) { a.beasts = upTo(9999) }})
	wantFaults := func(l ...fault) {
		a := arguments{manyMarks(3), lives(), []int{1}, 1, 1}
		// The first error comes last: where both are of one argument it stays.
		for _, f := range slices.Backward(l) {
			f.make(&a)
		}
		got, e := court.Counts(a.m, a.l, a.beasts, a.day, a.known)
		want(t, fmt.Sprintf("%.300v", a), got, e, api.Drive{}, l[0].e)
	}
	for i, f := range faults {
		wantFaults(f)
		for _, g := range faults[i:] {
			wantFaults(f, g)
		}
	}
}

// P10.2: forty different beasts may be counted, however often each one is named, and the last day and beast are no errors.
func TestCountsLimits(t *testing.T) {
	l := append(upTo(40), upTo(40)...)
	got, e := court.Counts(manyMarks(10), lives(), l, 8, 8)
	wanted, wantedE := retoldCounts(manyMarks(10), lives(), l, 8, 8)
	want(t, "forty", got, e, wanted, wantedE)
	for _, days := range [][2]int{{0, 0}, {0, api.MaxDay}, {api.MaxDay, 0}, {api.MaxDay, api.MaxDay}} {
		got, e := court.Counts(manyMarks(10), lives(), []int{1, api.MaxBeast}, days[0], days[1])
		wanted, wantedE := retoldCounts(manyMarks(10), lives(), []int{1, api.MaxBeast}, days[0], days[1])
		want(t, fmt.Sprint(days), got, e, wanted, wantedE)
	}
	for _, no := range []int{1, api.MaxBeast} {
		got, e := court.Counts(manyMarks(3), []api.Event{stray(0, 1, no, 1)}, []int{no}, 1, 1)
		want(t, fmt.Sprint(no), got, e, api.Drive{Beasts: []api.Counted{counted(no, 1, 1, 2, 3)}, Stocks: []api.Stock{{Owner: 1, Sort: 1, Most: 1}, {Owner: 2, Sort: 1, Most: 1}, {Owner: 3, Sort: 1, Most: 1}}}, api.OK)
	}
	got, e = court.Counts(manyMarks(10), nil, upTo(40), 8, 8)
	want(t, "nothing is known", got, e, api.Drive{}, api.OK)
}

// P10.2: as many stocks as there may be are all told.
func TestCountsOfManyStrays(t *testing.T) {
	m := manyMarks(8)
	var l []api.Event
	for i := range 40 {
		l = append(l, stray(i, 1, 40-i, 1+i%9))
	}
	got, e := court.Counts(m, l, upTo(40), 1, 1)
	wanted, wantedE := retoldCounts(m, l, upTo(40), 1, 1)
	want(t, "strays", got, e, wanted, wantedE)
	if len(got.Beasts) != 40 || len(got.Stocks) != 72 || drive.Check(got) != api.OK {
		t.Error(got)
	}
}
