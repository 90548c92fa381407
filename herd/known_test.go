package herd_test

import (
	"math/rand/v2"
	"slices"
	"testing"

	"pinfold/api"
	"pinfold/herd"
)

// P4.1: Standing: what is known, what is withdrawn, and what is not withdrawn after all.
func TestStanding(t *testing.T) {
	chain := listed(died(1, 3), withdraw(0, 5), withdraw(1, 7), withdraw(2, 9))
	twice := listed(died(1, 3), withdraw(0, 5), withdraw(0, 7), withdraw(1, 9))
	late := listed(late(died(1, 3), 8), withdraw(0, 5))
	otherManor := listed(died(1, 3), died(1, 3))
	otherManor[1].At = api.Item{Manor: 1}
	back := withdraw(0, 3)
	back.At, back.Of = api.Item{Manor: 1, No: 1}, api.Item{Manor: 1}
	otherManor = append(otherManor, back)
	nothing := []api.Event{back}
	for _, c := range []struct {
		l     []api.Event
		known int
		want  []int
	}{
		{nil, 0, nil},
		{chain, 2, nil},
		{chain, 3, []int{0}},
		{chain, 5, []int{1}},
		{chain, 7, []int{0, 2}},
		{chain, 9, []int{1, 3}},
		{chain, api.MaxDay, []int{1, 3}},
		{twice, 7, []int{1, 2}},
		{twice, 9, []int{2, 3}},
		{late, 5, []int{1}},
		{late, 8, []int{1}},
		{otherManor, 2, nil},
		{otherManor, 3, []int{0, 2}},
		{nothing, 3, []int{0}},
		{example(), 0, nil},
		{example(), 9, []int{0, 1, 2, 3, 4, 5}},
		{example(), 13, []int{0, 1, 2, 3, 4, 5, 6, 7, 8}},
		{example(), 14, []int{0, 1, 2, 3, 4, 6, 7, 8, 9}},
	} {
		l, e := herd.Standing(c.l, c.known)
		want(t, "Standing", l, e, c.want, api.OK)
	}
}

// P4.1: for each reason for which an event is void, and where it is not.
func TestVoid(t *testing.T) {
	for _, c := range []struct {
		name string
		l    []api.Event
		want []int
	}{
		{"born twice", listed(born(1, 1, 1, 0, 1), born(1, 2, 2, 0, 1)), []int{1}},
		{"born, and strays in", listed(born(1, 1, 1, 0, 1), stray(1, 1, 2)), []int{1}},
		{"strayed in, and born", listed(stray(1, 1, 1), born(1, 1, 1, 0, 1)), []int{1}},
		{"strays in twice", listed(stray(1, 1, 1), stray(1, 2, 1)), []int{1}},
		{"born again after death", listed(born(1, 1, 1, 0, 1), died(1, 2), born(1, 1, 1, 0, 3), stray(1, 1, 3)), []int{2, 3}},
		{"no dam", listed(born(1, 1, 1, 2, 1)), []int{0}},
		{"a later dam", listed(born(1, 1, 1, 2, 1), born(2, 1, 1, 0, 2)), []int{0}},
		{"a dam of that day, behind", listed(born(1, 1, 1, 2, 1), born(2, 1, 1, 0, 1)), []int{0}},
		{"a dam of that day, ahead", listed(born(2, 1, 1, 0, 1), born(1, 1, 1, 2, 1)), nil},
		{"a stray dam", listed(stray(2, 1, 1), born(1, 1, 1, 2, 1)), nil},
		{"a dam of another sort", listed(born(2, 1, 1, 0, 1), born(1, 2, 1, 2, 2)), []int{1}},
		{"a dam that died on an earlier day", listed(born(2, 1, 1, 0, 1), died(2, 3), born(1, 1, 1, 2, 4)), []int{2}},
		{"a dam that died on the day", listed(born(2, 1, 1, 0, 1), died(2, 4), born(1, 1, 1, 2, 4)), nil},
		{"a dam that dies on the next day", listed(born(2, 1, 1, 0, 1), died(2, 5), born(1, 1, 1, 2, 4)), nil},
		{"a dam that was born on the day 0, and died", listed(born(2, 1, 1, 0, 0), died(2, 0), born(1, 1, 1, 2, 1)), []int{2}},
		{"dams of each other", listed(born(1, 1, 1, 2, 1), born(2, 1, 1, 1, 1)), []int{0, 1}},
		{"nothing of what is not there", listed(sold(1, 1, 1), seen(1, 1, readsAny), found(1, 1, 1), died(1, 1)), []int{0, 1, 2, 3}},
		{"ahead of its birth", listed(born(1, 1, 1, 0, 2), sold(1, 2, 1), seen(1, 1, readsAny), found(1, 1, 1), died(1, 1)), []int{1, 2, 3, 4}},
		{"sold to its owner", listed(born(1, 1, 1, 0, 1), sold(1, 1, 2)), []int{1}},
		{"sold, and sold back", listed(born(1, 1, 1, 0, 1), sold(1, 2, 2), sold(1, 1, 2), sold(1, 1, 3)), []int{3}},
		{"a stray is sold", listed(stray(1, 1, 1), sold(1, 1, 2)), []int{1}},
		{"a stray is sold when it is found", listed(stray(1, 1, 1), found(1, 2, 2), sold(1, 1, 2), sold(1, 1, 2)), []int{3}},
		{"sold after death", listed(born(1, 1, 1, 0, 1), died(1, 2), sold(1, 2, 2), sold(1, 2, 3)), []int{2, 3}},
		{"sold on the day of its death, ahead", listed(born(1, 1, 1, 0, 1), sold(1, 2, 2), died(1, 2)), nil},
		{"read and found after death", listed(born(1, 1, 1, 0, 1), died(1, 2), seen(1, 3, readsAny), found(1, 1, 3), found(1, 1, 3)), nil},
		{"dies twice", listed(born(1, 1, 1, 0, 1), died(1, 2), died(1, 2), died(1, 5)), []int{2, 3}},
		{"dies on the day 0", listed(born(1, 1, 1, 0, 0), died(1, 0), died(1, 0)), []int{2}},
	} {
		var wanted []api.Item
		for _, no := range c.want {
			wanted = append(wanted, item(no))
		}
		void, e := herd.Void(c.l, 100)
		want(t, c.name, void, e, wanted, api.OK)
	}
}

// P4.1: void events are told in the order of items, not in that of days; withdrawals, and what is withdrawn or not yet known, are not void.
func TestVoidOrder(t *testing.T) {
	l := listed(died(1, 9), died(2, 5), sold(3, 1, 7), withdraw(1, 20), withdraw(0, 30), late(died(4, 1), 25))
	l = append(l, died(5, 0), died(6, 3))
	l[6].At, l[7].At = api.Item{Manor: 2, No: 1}, api.Item{Manor: 3}
	for known, wanted := range map[int][]api.Item{
		0:  {{Manor: 2, No: 1}},
		4:  {{Manor: 2, No: 1}, {Manor: 3}},
		9:  {item(0), item(1), item(2), {Manor: 2, No: 1}, {Manor: 3}},
		20: {item(0), item(2), {Manor: 2, No: 1}, {Manor: 3}},
		25: {item(0), item(2), item(5), {Manor: 2, No: 1}, {Manor: 3}},
		30: {item(2), item(5), {Manor: 2, No: 1}, {Manor: 3}},
	} {
		void, e := herd.Void(l, known)
		want(t, "Void", void, e, wanted, api.OK)
	}
	void, e := herd.Void(nil, 0)
	want(t, "Void of nothing", void, e, nil, api.OK)
}

// P4.1: Standing and Void of random lists are as the chapter says.
func TestRandomStanding(t *testing.T) {
	x := newRandom()
	voids := 0
	for range 1500 {
		l := randomList(x, bookB())
		known := x.IntN(someDays + 1)
		var wanted []int
		for i, y := range l {
			if stands(l, y, known) {
				wanted = append(wanted, i)
			}
		}
		standing, e := herd.Standing(l, known)
		want(t, "Standing", standing, e, wanted, api.OK)
		void, e := herd.Void(l, known)
		want(t, "Void", void, e, stateOf(l, someDays, known).void, api.OK)
		voids += len(void)
	}
	if voids < 1000 {
		t.Error("few events are void", voids)
	}
}

// freeItem is an item, anywhere among the others, that no event has or names.
func freeItem(x *rand.Rand, l []api.Event, manor, from int) api.Item {
	at := api.Item{Manor: manor, No: from + x.IntN(30)}
	for slices.ContainsFunc(l, func(y api.Event) bool { return y.At == at || y.Of == at && y.Kind == api.EvWithdraw }) {
		at.No++
	}
	return at
}

// with adds events to a list.
func with(t *testing.T, l []api.Event, more ...api.Event) []api.Event {
	t.Helper()
	for _, x := range more {
		m, e := herd.Add(l, x)
		wantErrno(t, "Add", e, api.OK)
		l = m
	}
	return l
}

// wantSame compares all that two lists tell as known on a day.
func wantSame(t *testing.T, name string, b api.Marks, l, m []api.Event, known int) {
	t.Helper()
	if !slices.Equal(toldOfAll(t, b, l, known), toldOfAll(t, b, m, known)) {
		t.Fatal(name, known, l, m)
	}
	one := herdsOn(l, known)
	other := herdsOn(m, known)
	if !slices.Equal(one, other) {
		t.Fatal(name, known, l, m, one, other)
	}
}

// herdsOn is what is told of all days, as known on one.
func herdsOn(l []api.Event, known int) []string {
	var all []string
	for day := range someDays + 1 {
		all = append(all, one(herd.Alive(l, day, known)))
		for n := range someOwners * someSorts {
			all = append(all, one(herd.Count(l, 1+n/someSorts, 1+n%someSorts, day, known)))
		}
		for no := 1; no <= someBeasts; no++ {
			all = append(all, one(herd.Held(l, no, day, known)))
		}
	}
	for no := 1; no <= someBeasts; no++ {
		all = append(all, one(herd.Beast(l, no, known)), one(herd.Line(l, no, known)))
	}
	return append(all, one(herd.Void(l, known)))
}

// P4.3: events, and withdrawals, that become known later change nothing.
func TestKnownLater(t *testing.T) {
	x := newRandom()
	for range 300 {
		b := randomBook(x)
		l := randomList(x, b)
		known := x.IntN(someDays)
		later := randomEvent(x, b)
		later.At = freeItem(x, l, x.IntN(2), 0)
		later.Known = known + 1 + x.IntN(3)
		wantSame(t, "known later", b, l, with(t, l, later), known)
		back := api.Event{Of: l[x.IntN(len(l))].At, Known: known + 1}
		back.At = freeItem(x, l, back.Of.Manor, back.Of.No+1)
		wantSame(t, "withdrawn later", b, l, with(t, l, back), known)
	}
}

// P4.3: an event that is withdrawn changes nothing, with its withdrawal, as long as nothing else names one of both.
func TestWithdrawn(t *testing.T) {
	x := newRandom()
	changes := 0
	for range 300 {
		b := randomBook(x)
		l := randomList(x, b)
		y := randomEvent(x, b)
		y.At = freeItem(x, l, x.IntN(2), 0)
		back := api.Event{Of: y.At, Known: 1 + x.IntN(someDays)}
		back.At = freeItem(x, l, y.At.Manor, y.At.No+1)
		more := with(t, l, y, back)
		wantSame(t, "withdrawn", b, l, more, back.Known+x.IntN(5))
		if !slices.Equal(herdsOn(l, back.Known-1), herdsOn(more, back.Known-1)) {
			changes++
		}
	}
	if changes < 20 {
		t.Error("few events did something ahead of their withdrawals", changes)
	}
}

// P4.6: what is told as known on any day is what is told as known on the last one of Dates that is not greater.
func TestLastDate(t *testing.T) {
	x := newRandom()
	for range 200 {
		b := randomBook(x)
		l := randomList(x, b)
		dates, e := herd.Dates(l)
		wantErrno(t, "Dates", e, api.OK)
		for i := 1; i < len(dates); i++ {
			if dates[i-1] >= dates[i] {
				t.Fatal(dates)
			}
		}
		last, now := -1, toldOfAll(t, b, nil, 0)
		for known := range someDays + 2 {
			if slices.Contains(dates, known) {
				last, now = known, toldOfAll(t, b, l, known)
			} else if !slices.Equal(toldOfAll(t, b, l, known), now) {
				t.Fatal(l, known, last)
			}
		}
	}
}

// P4.6: each day on which an event becomes known is one of Dates, the limits too.
func TestDatesOfLimits(t *testing.T) {
	l := listed(late(born(1, 1, 1, 0, 5), 0), late(died(1, 7), api.MaxDay))
	for known, wanted := range map[int]int{0: -1, api.MaxDay - 1: -1, api.MaxDay: 7} {
		is, e := herd.Beast(l, 1, known)
		want(t, "Beast", is, e, api.Beast{No: 1, Sort: 1, Owner: 1, Bearer: 1, Born: 5, Died: wanted}, api.OK)
	}
	dates, e := herd.Dates(l)
	want(t, "Dates", dates, e, []int{0, api.MaxDay}, api.OK)
}
