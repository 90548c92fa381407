package herd_test

import (
	"math/rand/v2"
	"slices"
	"testing"

	"pinfold/api"
	"pinfold/herd"
	"pinfold/mark"
)

// P4.1: the bearers of beasts by what was read, in books with and without false places.
func TestBearers(t *testing.T) {
	l := listed(born(1, 1, 2, 0, 1), seen(1, 2, readsAny), seen(1, 3, readsThird), seen(1, 4, readsNone), stray(2, 1, 1), died(2, 2), seen(2, 3, readsFirst),
		late(seen(1, 1, readsThird), 9), withdraw(7, 11), withdraw(3, 12))
	b := bookB()
	for _, c := range []struct {
		no, known int
		want      []int
	}{
		{1, 1, []int{1, 2, 3}}, {1, 2, []int{1, 2, 3}}, {1, 3, []int{3}}, {1, 4, nil}, {1, 11, nil}, {1, 12, []int{3}},
		{2, 1, []int{1, 2, 3}}, {2, 2, []int{1, 2, 3}}, {2, 3, []int{1}},
	} {
		owners, e := herd.Bearers(b, l, c.no, c.known)
		want(t, "Bearers", owners, e, c.want, api.OK)
	}
	for _, no := range []int{3, 9999} {
		owners, e := herd.Bearers(b, l, no, 100)
		want(t, "Bearers", owners, e, nil, api.ErrBeast)
	}
	b = api.Marks{Wear: b.Wear, False: 1, Given: []api.Given{{Owner: 4}, {Owner: 8, Mark: api.Mark{2, 2, 2}}}}
	once := listed(stray(1, 1, 1), seen(1, 2, api.Reading{4, 1, 1, 1, 1, 1}), seen(1, 3, api.Reading{1, 1, 1, 1, 1, 4}), seen(1, 4, api.Reading{4, 4, 1, 1, 1, 1}))
	for known, wanted := range map[int][]int{1: {4, 8}, 2: {4}, 3: {4}, 4: nil} {
		owners, e := herd.Bearers(b, once, 1, known)
		want(t, "Bearers", owners, e, wanted, api.OK)
	}
	owners, e := herd.Bearers(api.Marks{Wear: b.Wear}, once, 1, 1)
	want(t, "Bearers in an empty book", owners, e, nil, api.OK)
	full := fullList()
	owners, e = herd.Bearers(bookB(), full, api.MaxBeast, api.MaxDay)
	want(t, "Bearers of a full list", owners, e, []int{1, 2, 3}, api.OK)
}

// P4.1: which beasts do not read as the marks that they bear, whosoever's they are.
func TestWrong(t *testing.T) {
	for _, c := range []struct {
		name string
		l    []api.Event
		want []int
	}{
		{"nothing", nil, nil},
		{"nothing was read", listed(born(1, 1, 2, 0, 1)), nil},
		{"an owner without a mark", listed(born(1, 1, 4, 0, 1)), []int{1}},
		{"read aright", listed(born(1, 1, 3, 0, 1), seen(1, 1, readsThird)), nil},
		{"read as another one's", listed(born(1, 1, 2, 0, 1), seen(1, 1, readsThird)), []int{1}},
		{"read as nobody's", listed(born(1, 1, 2, 0, 1), seen(1, 1, readsNone)), []int{1}},
		{"a stray that reads as nobody's", listed(stray(1, 1, 1), seen(1, 1, readsNone)), nil},
		{"a stray that is found", listed(stray(1, 1, 1), found(1, 2, 1), seen(1, 1, readsThird)), nil},
		{"sold to whose mark is read", listed(born(1, 1, 2, 0, 1), sold(1, 3, 1), seen(1, 1, readsThird)), []int{1}},
		{"sold to another one", listed(born(1, 1, 3, 0, 1), sold(1, 2, 1), seen(1, 1, readsThird)), nil},
		{"dead", listed(born(1, 1, 2, 0, 1), died(1, 2), seen(1, 3, readsThird)), []int{1}},
		{"several", listed(born(8, 1, 2, 0, 1), born(5, 1, 3, 0, 1), born(3, 1, 2, 0, 1), seen(3, 2, readsThird), seen(5, 2, readsThird), seen(8, 2, readsFirst)), []int{3, 8}},
		{"withdrawn", listed(born(1, 1, 2, 0, 1), seen(1, 1, readsThird), withdraw(1, 2)), nil},
		{"known later", listed(born(1, 1, 2, 0, 1), late(seen(1, 1, readsThird), 10)), nil},
	} {
		wrong, e := herd.Wrong(bookB(), c.l, 9)
		want(t, c.name, wrong, e, c.want, api.OK)
	}
}

// P4.1: what each kind of events moves.
func TestMoved(t *testing.T) {
	family := []api.Event{born(50, 1, 1, 0, 1), born(40, 1, 2, 50, 2), born(30, 1, 1, 40, 4), born(20, 1, 1, 0, 4)}
	for _, c := range []struct {
		name string
		l    []api.Event
		no   int
		want []int
	}{
		{"a birth, with all young", listed(family...), 0, []int{30, 40, 50}},
		{"the birth of one of the young", listed(family...), 1, []int{30, 40}},
		{"a birth without young", listed(family...), 3, []int{20}},
		{"a stray", listed(stray(7, 1, 1), seen(7, 1, readsThird)), 0, []int{7}},
		{"a sale", listed(family[0], sold(50, 2, 2)), 1, []int{50}},
		{"a sale, and back", listed(family[0], sold(50, 2, 2), sold(50, 1, 3)), 1, nil},
		{"a sale, and one that is void without it", listed(family[0], sold(50, 2, 2), sold(50, 1, 3)), 2, []int{50}},
		{"a reading", listed(family[0], seen(50, 2, readsThird)), 1, []int{50}},
		{"a reading that tells nothing", listed(family[0], seen(50, 2, readsAny)), 1, nil},
		{"one of two like readings", listed(family[0], seen(50, 2, readsThird), seen(50, 3, readsThird)), 1, nil},
		{"a finding", listed(family[0], found(50, 2, 2)), 1, []int{50}},
		{"a finding of the owner's", listed(family[0], found(50, 1, 2)), 1, []int{50}},
		{"one of two like findings", listed(family[0], found(50, 2, 2), found(50, 2, 2)), 1, nil},
		{"a death", listed(family[0], died(50, 2)), 1, []int{50}},
		{"a death that keeps young from being born", listed(family[0], died(50, 2), born(40, 1, 2, 50, 3), born(30, 1, 1, 40, 4)), 1, []int{30, 40, 50}},
		{"the first one of two deaths", listed(family[0], died(50, 2), died(50, 3)), 1, []int{50}},
		{"the second one of two deaths", listed(family[0], died(50, 2), died(50, 3)), 2, nil},
		{"the first one of two births", listed(family[0], born(50, 1, 1, 0, 2)), 0, []int{50}},
		{"of two like births", listed(family[0], family[0]), 0, nil},
		{"of births of another sort", listed(family[0], born(50, 2, 1, 0, 1)), 0, []int{50}},
		{"of births of another dam", listed(family[0], born(40, 1, 1, 0, 2), born(40, 1, 1, 50, 2)), 1, []int{40}},
		{"of births of another owner, found", listed(family[0], born(50, 1, 2, 0, 1), found(50, 1, 2)), 0, []int{50}},
		{"a withdrawal", listed(family[0], sold(50, 2, 2), withdraw(1, 3)), 2, []int{50}},
		{"what is withdrawn", listed(family[0], sold(50, 2, 2), withdraw(1, 3)), 1, nil},
		{"the withdrawal of a birth", listed(family[0], family[1], family[2], withdraw(0, 3)), 3, []int{30, 40, 50}},
		{"the withdrawal of a withdrawal", listed(family[0], withdraw(0, 3), withdraw(1, 4)), 2, []int{50}},
		{"a withdrawal of nothing", listed(family[0], sold(50, 2, 2), withdraw(0, 3))[1:], 2, nil},
		{"what is void", listed(family[0], sold(50, 1, 2)), 1, nil},
		{"what is known later", listed(family[0], late(sold(50, 2, 2), 21)), 1, nil},
	} {
		moved, e := herd.Moved(bookB(), c.l, item(c.no), 20)
		want(t, c.name, moved, e, c.want, api.OK)
	}
}

// P4.1: what is told in another way later, or earlier.
func TestChanged(t *testing.T) {
	l := example()
	for _, c := range []struct {
		known, later int
		want         []int
	}{
		{0, 0, nil}, {0, 1, []int{10}}, {0, 100, []int{10, 11, 20}}, {1, 4, nil}, {1, 6, []int{11, 20}}, {6, 9, []int{10, 20}}, {8, 9, []int{20}},
		{10, 11, []int{11}}, {11, 13, []int{10}}, {13, 14, []int{20}}, {8, 14, []int{10, 11, 20}}, {6, 1, []int{11, 20}}, {14, 13, []int{20}}, {9, 9, nil}, {api.MaxDay, 14, nil},
	} {
		changed, e := herd.Changed(bookB(), l, c.known, c.later)
		if !slices.Equal(changed, c.want) || e != api.OK {
			t.Error(c, changed, e)
		}
	}
}

// P4.1: the events that matter for what is told of a beast.
func TestRests(t *testing.T) {
	l := listed(born(50, 1, 1, 0, 1), sold(50, 2, 1), born(40, 1, 2, 50, 2), died(50, 3), seen(40, 3, readsThird), seen(40, 4, readsAny), sold(40, 3, 5),
		withdraw(6, 6), late(died(40, 6), 12), born(40, 1, 2, 50, 7))
	for _, c := range []struct {
		no, known int
		want      []int
	}{
		{50, 1, []int{0, 1}}, {50, 2, []int{0, 1}}, {50, 3, []int{0, 1, 3}}, {40, 2, []int{0, 2}}, {40, 3, []int{0, 2, 4}}, {40, 5, []int{0, 2, 4, 6}}, {40, 6, []int{0, 2, 4, 7}},
		{40, 11, []int{0, 2, 4, 7}}, {40, 12, []int{0, 2, 4, 7, 8}},
	} {
		var wanted []api.Item
		for _, no := range c.want {
			wanted = append(wanted, item(no))
		}
		items, e := herd.Rests(bookB(), l, c.no, c.known)
		want(t, "Rests", items, e, wanted, api.OK)
	}
	for no, known := range map[int]int{50: 0, 40: 1, 30: 100} {
		items, e := herd.Rests(bookB(), l, no, known)
		want(t, "Rests", items, e, nil, api.ErrBeast)
	}
}

// P4.1: what is told with the mark book of random lists is as the chapter says.
func TestRandomTold(t *testing.T) {
	x := newRandom()
	movedMany := 0
	for range 250 {
		b := randomBook(x)
		l := randomList(x, b)
		known, later := x.IntN(someDays+1), x.IntN(someDays+1)
		s := stateOf(l, someDays, known)
		wrong, e := herd.Wrong(b, l, known)
		want(t, "Wrong", wrong, e, beastsOf(func(no int) bool {
			is := s.beasts[no]
			return is.Bearer != 0 && !slices.Contains(bearersOf(b, is.Seen), is.Bearer)
		}), api.OK)
		changed, e := herd.Changed(b, l, known, later)
		want(t, "Changed", changed, e, apart(b, s, stateOf(l, someDays, later)), api.OK)
		var rests [someBeasts + 1][]api.Item
		for i, y := range l {
			fewer := stateOf(slices.Delete(slices.Clone(l), i, i+1), someDays, known)
			moved, e := herd.Moved(b, l, y.At, known)
			want(t, "Moved", moved, e, apart(b, s, fewer), api.OK)
			for _, no := range moved {
				rests[no] = append(rests[no], y.At)
			}
			movedMany += len(moved) / 2
		}
		for no, is := range s.beasts {
			owners, e := herd.Bearers(b, l, no, known)
			want(t, "Bearers", owners, e, bearersOf(b, is.Seen), api.OK)
			items, e := herd.Rests(b, l, no, known)
			want(t, "Rests", items, e, rests[no], api.OK)
		}
	}
	if movedMany < 100 {
		t.Error("few events move several beasts", movedMany)
	}
}

// trueReading is a reading that has a worn sign of a mark at all places but so many, and maybe others.
func trueReading(x *rand.Rand, b api.Marks, m api.Mark) api.Reading {
	picks := x.Perm(30)[:api.Places]
	r, _ := mark.Worn(b.Wear, m, picks)
	for i := range r {
		r[i] |= x.IntN(32) & x.IntN(32)
	}
	for _, i := range x.Perm(api.Places)[:x.IntN(b.False+1)] {
		r[i] = 1 + x.IntN(31)
	}
	return r
}

// P4.2: whatever mark a beast truly bears, its owner is one of Bearers; each one of Bearers is the owner of a mark of which the readings may be.
func TestTrueBearers(t *testing.T) {
	x := newRandom()
	for range 500 {
		b := randomBook(x)
		truly := b.Given[x.IntN(len(b.Given))]
		l := []api.Event{born(7, 1, 1+x.IntN(api.MaxOwner), 0, 0)}
		if x.IntN(2) == 0 {
			l[0] = stray(7, 1, 0)
		}
		var readings []api.Reading
		for range x.IntN(4) {
			readings = append(readings, trueReading(x, b, truly.Mark))
			l = append(l, seen(7, x.IntN(someDays), readings[len(readings)-1]))
		}
		for range x.IntN(4) { // which is not known yet, or not this one's
			l = append(l, late(seen(7, x.IntN(someDays), randomReading(x, b)), someDays+1), seen(8, 1, randomReading(x, b)))
		}
		l = append(l, sold(7, 1+x.IntN(3), 5), found(7, 1+x.IntN(3), 6), died(7, x.IntN(someDays)))
		owners, e := herd.Bearers(b, listed(l...), 7, someDays)
		if e != api.OK || !slices.Contains(owners, truly.Owner) {
			t.Fatal(b, l, truly, owners, e)
		}
		for _, g := range b.Given {
			may := !slices.ContainsFunc(readings, func(r api.Reading) bool { return costs(b.Wear, g.Mark, r) > b.False })
			if may != slices.Contains(owners, g.Owner) {
				t.Fatal(b, l, g, owners)
			}
		}
	}
}

// P4.5: a reading moves at most the beast that was read, and only its bearers, which are never more with it; a finding moves at most its beast.
func TestReadingMoves(t *testing.T) {
	x := newRandom()
	moves := 0
	for range 500 {
		b := randomBook(x)
		l := randomList(x, b)
		known := x.IntN(someDays + 1)
		beast := 1 + x.IntN(someBeasts)
		y := late(seen(beast, x.IntN(someDays), randomReading(x, b)), x.IntN(someDays))
		if x.IntN(2) == 0 {
			y = late(found(beast, 1+x.IntN(someOwners), x.IntN(someDays)), x.IntN(someDays))
		}
		y.At = freeItem(x, l, x.IntN(2), 0)
		more := with(t, l, y)
		moved, e := herd.Moved(b, more, y.At, known)
		if e != api.OK || len(moved) > 0 && !slices.Equal(moved, []int{beast}) {
			t.Fatal(l, y, known, moved, e)
		}
		moves += len(moved)
		if y.Kind == api.EvSeen {
			wantFewerBearers(t, b, l, more, beast, known)
		}
	}
	if moves < 50 {
		t.Error("few events move something", moves)
	}
}

// wantFewerBearers compares a beast without a reading, and with it.
func wantFewerBearers(t *testing.T, b api.Marks, without, with []api.Event, beast, known int) {
	t.Helper()
	is, e := herd.Beast(without, beast, known)
	was, f := herd.Beast(with, beast, known)
	is.Seen, was.Seen = nil, nil
	want(t, "Beast", was, f, is, e)
	owners, e := herd.Bearers(b, without, beast, known)
	fewer, f := herd.Bearers(b, with, beast, known)
	wantErrno(t, "Bearers", f, e)
	for _, owner := range fewer {
		if !slices.Contains(owners, owner) {
			t.Fatal(without, with, beast, owners, fewer)
		}
	}
}
