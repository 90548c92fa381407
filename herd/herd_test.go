package herd_test

import (
	"slices"
	"testing"

	"pinfold/api"
	"pinfold/herd"
)

// P4.1: what each event does to a beast, in the order of days, and of items on one day.
func TestBeast(t *testing.T) {
	r, s := readsFirst, readsThird
	for _, c := range []struct {
		name string
		l    []api.Event
		want api.Beast
	}{
		{"born", listed(born(1, 2, 3, 0, 4)), api.Beast{Owner: 3, Bearer: 3, Born: 4, Died: -1}},
		{"born of a dam", listed(born(9, 2, 8, 0, 3), born(1, 2, 3, 9, 4)), api.Beast{Dam: 9, Owner: 3, Bearer: 3, Born: 4, Died: -1}},
		{"strayed in", listed(stray(1, 2, 4)), api.Beast{Born: 4, Died: -1}},
		{"sold", listed(born(1, 2, 3, 0, 4), sold(1, 5, 4)), api.Beast{Owner: 5, Bearer: 3, Born: 4, Died: -1}},
		{"found", listed(stray(1, 2, 4), found(1, 7, 5)), api.Beast{Owner: 7, Born: 4, Died: -1, Found: true}},
		{"found of its owner", listed(born(1, 2, 3, 0, 4), found(1, 3, 5)), api.Beast{Owner: 3, Bearer: 3, Born: 4, Died: -1, Found: true}},
		{"found, and sold", listed(born(1, 2, 3, 0, 4), found(1, 6, 5), sold(1, 5, 6)), api.Beast{Owner: 5, Bearer: 3, Born: 4, Died: -1, Found: true}},
		{"sold, and found earlier", listed(born(1, 2, 3, 0, 4), sold(1, 5, 6), found(1, 6, 5)), api.Beast{Owner: 5, Bearer: 3, Born: 4, Died: -1, Found: true}},
		{"died", listed(born(1, 2, 3, 0, 4), died(1, 4)), api.Beast{Owner: 3, Bearer: 3, Born: 4, Died: 4}},
		{"died on the day 0", listed(stray(1, 2, 0), died(1, 0)), api.Beast{}},
		{"found dead", listed(born(1, 2, 3, 0, 4), died(1, 5), found(1, 6, 7), seen(1, 7, r)), api.Beast{Owner: 6, Bearer: 3, Born: 4, Died: 5, Found: true, Seen: []api.Reading{r}}},
		{"read", listed(seen(1, 8, r), seen(1, 7, s), born(1, 2, 3, 0, 4), seen(1, 7, r), seen(1, 4, s)), api.Beast{Owner: 3, Bearer: 3, Born: 4, Died: -1, Seen: []api.Reading{s, s, r, r}}},
		{"another one's", listed(stray(2, 2, 1), stray(1, 2, 4), found(2, 1, 5), seen(2, 5, r), died(2, 9)), api.Beast{Born: 4, Died: -1}},
		{"born again", listed(born(1, 2, 3, 0, 4), sold(1, 4, 5), seen(1, 5, r), died(1, 6), born(1, 5, 5, 0, 7)), api.Beast{Owner: 4, Bearer: 3, Born: 4, Died: 6, Seen: []api.Reading{r}}},
	} {
		c.want.No, c.want.Sort = 1, 2
		is, e := herd.Beast(c.l, 1, 100)
		want(t, c.name, is, e, c.want, api.OK)
	}
}

// P4.1: a beast is there from the day on that its birth is known, whatever the day of its birth.
func TestBeastNotThere(t *testing.T) {
	l := listed(late(born(1, 1, 1, 0, 50), 10), withdraw(0, 20))
	for known, wanted := range map[int]api.Errno{9: api.ErrBeast, 10: api.OK, 19: api.OK, 20: api.ErrBeast} {
		is, e := herd.Beast(l, 1, known)
		w := api.Beast{No: 1, Sort: 1, Owner: 1, Bearer: 1, Born: 50, Died: -1}
		if wanted != api.OK {
			w = api.Beast{}
		}
		want(t, "Beast", is, e, w, wanted)
		_, e = herd.Beast(l, 2, known)
		wantErrno(t, "Beast", e, api.ErrBeast)
	}
}

// P4.1: whose a beast is on each day of its life.
func TestHeld(t *testing.T) {
	l := listed(born(1, 1, 1, 0, 2), sold(1, 2, 4), died(1, 6), found(1, 3, 8), stray(2, 1, 3), found(2, 1, 5))
	for day, wanted := range []string{"0 42", "0 42", "1 0", "1 0", "2 0", "2 0", "0 0", "0 0", "0 0", "0 0"} {
		if got := one(herd.Held(l, 1, day, 9)); got != wanted {
			t.Error(day, got, wanted)
		}
	}
	for day, wanted := range []string{"0 42", "0 42", "0 42", "0 0", "0 0", "1 0", "1 0"} {
		if got := one(herd.Held(l, 2, day, 9)); got != wanted {
			t.Error(day, got, wanted)
		}
	}
	for known, wanted := range []string{"0 42", "0 42", "1 0", "1 0", "2 0", "2 0", "0 0"} {
		if got := one(herd.Held(l, 1, api.MaxDay, known)); got != wanted {
			t.Error(known, got, wanted)
		}
	}
}

// P4.1: which beasts live on a day, and how many of a sort are whose.
func TestAliveAndCount(t *testing.T) {
	l := listed(born(3, 1, 1, 0, 2), born(1, 1, 1, 0, 3), born(2, 2, 1, 0, 3), stray(9, 1, 1), sold(1, 2, 5), died(3, 6), found(9, 1, 7), late(died(2, 0), 4), late(died(2, 4), 8))
	for day, wanted := range map[int][]int{0: nil, 1: {9}, 2: {3, 9}, 3: {1, 2, 3, 9}, 5: {1, 2, 3, 9}, 6: {1, 2, 9}, 7: {1, 2, 9}, api.MaxDay: {1, 2, 9}} {
		alive, e := herd.Alive(l, day, 7)
		want(t, "Alive", alive, e, wanted, api.OK)
	}
	alive, e := herd.Alive(l, 4, 8)
	want(t, "Alive, as known later", alive, e, []int{1, 3, 9}, api.OK)
	alive, e = herd.Alive(l, 4, 2)
	want(t, "Alive, as known earlier", alive, e, []int{3, 9}, api.OK)
	for _, c := range []struct{ owner, sort, day, known, want int }{
		{1, 1, 1, 9, 0}, {1, 1, 2, 9, 1}, {1, 1, 3, 9, 2}, {1, 2, 3, 9, 1}, {1, 2, 4, 9, 0}, {1, 2, 4, 7, 1}, {1, 1, 5, 9, 1}, {2, 1, 5, 9, 1},
		{2, 2, 5, 9, 0}, {1, 1, 6, 9, 0}, {1, 1, 7, 9, 1}, {1, 1, 7, 6, 0}, {2, 1, 4, 9, 0}, {99, 9, 9, 9, 0},
	} {
		n, e := herd.Count(l, c.owner, c.sort, c.day, c.known)
		if n != c.want || e != api.OK {
			t.Error(c, n, e)
		}
	}
}

// P4.1: the lines of a family, of which some are dead, sold or strays.
func TestLine(t *testing.T) {
	l := listed(born(50, 1, 1, 0, 1), born(40, 1, 2, 50, 2), born(60, 1, 1, 50, 3), died(50, 3), born(30, 1, 1, 40, 4), stray(7, 1, 4),
		born(5, 1, 1, 7, 6), born(70, 1, 1, 30, 9), late(born(80, 1, 1, 50, 2), 20), born(90, 2, 1, 0, 1), withdraw(4, 30))
	for _, c := range []struct {
		no, known int
		want      []int
	}{
		{50, 9, []int{30, 40, 50, 60, 70}}, {40, 9, []int{30, 40, 70}}, {60, 9, []int{60}}, {30, 9, []int{30, 70}}, {70, 9, []int{70}}, {7, 9, []int{5, 7}},
		{90, 9, []int{90}}, {50, 1, []int{50}}, {50, 3, []int{40, 50, 60}}, {50, 20, []int{30, 40, 50, 60, 70, 80}}, {50, 30, []int{40, 50, 60, 80}},
	} {
		line, e := herd.Line(l, c.no, c.known)
		want(t, "Line", line, e, c.want, api.OK)
	}
	for _, no := range []int{30, 70} {
		_, e := herd.Line(l, no, 30)
		wantErrno(t, "Line of none", e, api.ErrBeast)
	}
}

// P4.1: as long a line as there may be.
func TestLongLine(t *testing.T) {
	var l []api.Event
	var wanted []int
	for i := range api.MaxEvents {
		dam := 0
		if i > 0 {
			dam = 201 - i
		}
		l = append(l, born(200-i, 1, 1, dam, i/2))
		wanted = append(wanted, 200-api.MaxEvents+1+i)
	}
	line, e := herd.Line(listed(l...), 200, 100)
	want(t, "Line", line, e, wanted, api.OK)
}

// P4.1: all that is told of random lists is as the chapter says.
func TestRandomLists(t *testing.T) {
	x := newRandom()
	for range 1200 {
		l := randomList(x, bookB())
		known, day := x.IntN(someDays+1), x.IntN(someDays+1)
		all, then := stateOf(l, someDays, known), stateOf(l, day, known)
		for no := 1; no <= someBeasts+1; no++ {
			is, there := all.beasts[no]
			wanted := api.ErrBeast
			if there {
				wanted = api.OK
			}
			got, e := herd.Beast(l, no, known)
			want(t, "Beast", got, e, is, wanted)
			wantHeld(t, l, no, day, known, then)
		}
		living := beastsOf(func(no int) bool { return then.living(no) })
		alive, e := herd.Alive(l, day, known)
		want(t, "Alive", alive, e, living, api.OK)
		for n := range someOwners * someSorts {
			owner, sort := 1+n/someSorts, 1+n%someSorts
			wanted := beastsOf(func(no int) bool {
				return then.living(no) && then.beasts[no].Owner == owner && then.beasts[no].Sort == sort
			})
			n, e := herd.Count(l, owner, sort, day, known)
			want(t, "Count", n, e, len(wanted), api.OK)
		}
	}
}

func (s state) living(no int) bool {
	is, there := s.beasts[no]
	return there && is.Died == -1
}

func wantHeld(t *testing.T, l []api.Event, no, day, known int, then state) {
	t.Helper()
	is, there := then.beasts[no]
	wanted, wantedE := is.Owner, api.OK
	if !there {
		wantedE = api.ErrBeast
	}
	if !then.living(no) {
		wanted = 0
	}
	n, e := herd.Held(l, no, day, known)
	want(t, "Held", n, e, wanted, wantedE)
}

// lineOf follows the dams of all beasts back.
func (s state) lineOf(no int) []int {
	return beastsOf(func(young int) bool {
		for young != 0 && young != no {
			young = s.beasts[young].Dam
		}
		return young == no
	})
}

// P4.7: a beast is never in the line of one that it bore; who is born later than a beast died is none that it bore.
func TestLines(t *testing.T) {
	x := newRandom()
	long := 0
	for range 2000 {
		l := randomList(x, bookB())
		known := x.IntN(someDays + 1)
		s := stateOf(l, someDays, known)
		for no, is := range s.beasts {
			line, e := herd.Line(l, no, known)
			want(t, "Line", line, e, s.lineOf(no), api.OK)
			if len(line) > 2 {
				long++
			}
			for _, young := range line {
				if young == no {
					continue
				}
				back, e := herd.Line(l, young, known)
				if e != api.OK || slices.Contains(back, no) {
					t.Fatal(l, no, young, back, e)
				}
				y, e := herd.Beast(l, young, known)
				if e != api.OK || y.Dam == no && is.Died != -1 && y.Born > is.Died {
					t.Fatal(l, is, y, e)
				}
			}
		}
	}
	if long < 100 {
		t.Error("few lines are long", long)
	}
}

// P4.8: the Counts of all owners and sorts add up to the beasts that are alive, but those without an owner.
func TestCounts(t *testing.T) {
	x := newRandom()
	without := 0
	for range 100 {
		l := randomList(x, bookB())
		known, day := x.IntN(someDays+1), x.IntN(someDays+1)
		alive, e := herd.Alive(l, day, known)
		wantErrno(t, "Alive", e, api.OK)
		owned := 0
		for _, no := range alive {
			n, e := herd.Held(l, no, day, known)
			wantErrno(t, "Held", e, api.OK)
			if n != 0 {
				owned++
			}
		}
		without += len(alive) - owned
		total := 0
		for owner := 1; owner <= api.MaxOwner; owner++ {
			for sort := 1; sort <= api.MaxSort; sort++ {
				n, e := herd.Count(l, owner, sort, day, known)
				wantErrno(t, "Count", e, api.OK)
				total += n
			}
		}
		if total != owned {
			t.Fatal(l, day, known, alive, owned, total)
		}
	}
	if without < 10 {
		t.Error("few beasts have no owner", without)
	}
}
