package herd_test

import (
	"fmt"
	"math/rand/v2"
	"slices"
	"testing"

	"pinfold/api"
	"pinfold/herd"
	"pinfold/mark"
)

// Events that are known on the day on which they happen; listed gives them their items.

func born(beast, sort, owner, dam, day int) api.Event {
	return api.Event{Kind: api.EvBorn, Beast: beast, Sort: sort, Owner: owner, Dam: dam, Day: day, Known: day}
}

func stray(beast, sort, day int) api.Event {
	return api.Event{Kind: api.EvStray, Beast: beast, Sort: sort, Day: day, Known: day}
}

func sold(beast, owner, day int) api.Event {
	return api.Event{Kind: api.EvSold, Beast: beast, Owner: owner, Day: day, Known: day}
}

func seen(beast, day int, r api.Reading) api.Event {
	return api.Event{Kind: api.EvSeen, Beast: beast, Seen: r, Day: day, Known: day}
}

func found(beast, owner, day int) api.Event {
	return api.Event{Kind: api.EvFound, Beast: beast, Owner: owner, Day: day, Known: day}
}

func died(beast, day int) api.Event {
	return api.Event{Kind: api.EvDied, Beast: beast, Day: day, Known: day}
}

func withdraw(no, known int) api.Event {
	return api.Event{Kind: api.EvWithdraw, Of: api.Item{No: no}, Known: known}
}

// late is an event that becomes known on a day.
func late(x api.Event, known int) api.Event {
	x.Known = known
	return x
}

// listed has the events as the manor 0 wrote them.
func listed(l ...api.Event) []api.Event {
	l = slices.Clone(l)
	for i := range l {
		l[i].At = item(i)
	}
	return l
}

// item is one of the manor 0.
func item(no int) api.Item { return api.Item{No: no} }

// Readings of the marks of bookB.
var (
	readsAny   = api.Reading{31, 1, 1, 1, 1, 31} // may be all three
	readsThird = api.Reading{24, 1, 1, 1, 1, 31}
	readsFirst = api.Reading{1, 1, 1, 1, 1, 1}
	readsNone  = api.Reading{1, 1, 1, 1, 1, 16}
)

// bookB is the mark book B of chapter 1.
func bookB() api.Marks {
	return api.Marks{Wear: api.Wear{1, 3, 4, 24, 24}, Given: []api.Given{
		{Owner: 1},
		{Owner: 2, Mark: api.Mark{2}},
		{Owner: 3, Mark: api.Mark{3, 0, 0, 0, 0, 2}},
	}}
}

// badBooks are mark books that are not valid.
func badBooks() []api.Marks {
	near, many := bookB(), bookB()
	near.Given[1].Mark = api.Mark{1}
	many.False = api.MaxFalse + 1
	return []api.Marks{{}, near, many}
}

// example is the list of events of the chapter's examples.
func example() []api.Event {
	return listed(
		born(10, 3, 2, 0, 1),
		born(11, 3, 2, 10, 5),
		stray(20, 3, 6),
		seen(20, 6, readsAny),
		sold(10, 1, 7),
		late(seen(20, 6, readsThird), 9),
		found(20, 3, 10),
		late(seen(11, 8, readsFirst), 11),
		died(10, 12),
		withdraw(5, 14),
	)
}

// fullList has as many events as a list may have, at the limits of all.
func fullList() []api.Event {
	l := []api.Event{born(api.MaxBeast, api.MaxSort, api.MaxOwner, 0, 0)}
	for len(l) < api.MaxEvents {
		l = append(l, late(seen(api.MaxBeast, 0, api.Reading{31, 31, 31, 31, 31, 31}), api.MaxDay))
	}
	for i := range l {
		l[i].At = api.Item{Manor: i / 10, No: api.MaxNo - 9 + i%10}
	}
	return l
}

// badLists are lists that are not valid, one for each way in which they may not be.
func badLists() [][]api.Event {
	var l [][]api.Event
	change := func(f func(x []api.Event) []api.Event) { l = append(l, f(fullList())) }
	change(func(x []api.Event) []api.Event { return slices.Insert(x, 0, died(1, 1)) })
	change(func(x []api.Event) []api.Event { x[0].Sort = 0; return x })
	change(func(x []api.Event) []api.Event { x[59].Kind = 7; return x })
	change(func(x []api.Event) []api.Event { x[59].Beast = 0; return x })
	change(func(x []api.Event) []api.Event { x[1].At = x[0].At; return x })
	change(func(x []api.Event) []api.Event { x[0].At.No, x[1].At.No = x[1].At.No, x[0].At.No; return x })
	change(func(x []api.Event) []api.Event { x[0].At, x[10].At = x[10].At, x[0].At; return x })
	change(func(x []api.Event) []api.Event { return []api.Event{x[2], x[2]} })
	change(func(x []api.Event) []api.Event { return make([]api.Event, 1) })
	return l
}

func newRandom() *rand.Rand { return rand.New(rand.NewPCG(7, 8)) }

// The ranges of randomList: few of all, so that events meet.
const (
	someBeasts = 5
	someOwners = 3
	someSorts  = 2
	someDays   = 14
)

// randomBook has marks of some of the owners, and of the owner 99.
func randomBook(x *rand.Rand) api.Marks {
	b := api.Marks{Wear: api.Wear{1, 3, 4, 24, 24}, False: x.IntN(api.MaxFalse + 1)}
	for _, owner := range append(x.Perm(someOwners + 1)[:someOwners], api.MaxOwner-1) {
		var m api.Mark
		for i := range m {
			m[i] = x.IntN(api.Signs)
		}
		if c, e := mark.Add(b, api.Given{Owner: 1 + owner, Mark: m}); e == api.OK {
			b = c
		}
	}
	return b
}

// randomReading is of a worn mark of the book, mostly; some signs more may be what was seen.
func randomReading(x *rand.Rand, b api.Marks) api.Reading {
	var m api.Mark
	if len(b.Given) > 0 {
		m = b.Given[x.IntN(len(b.Given))].Mark
	}
	var r api.Reading
	for i := range r {
		r[i] = b.Wear[m[i]] | x.IntN(32)&x.IntN(32)
		if x.IntN(12) == 0 {
			r[i] = 1 + x.IntN(31)
		}
	}
	return r
}

// randomEvent happens, and is known, on one of someDays.
func randomEvent(x *rand.Rand, b api.Marks) api.Event {
	beast, owner, sort, day := 1+x.IntN(someBeasts), 1+x.IntN(someOwners), 1+x.IntN(8)/7, x.IntN(someDays)
	dam := x.IntN(beast)
	l := []api.Event{
		born(beast, sort, owner, dam, day/2),
		born(beast, sort, owner, 0, day/3),
		stray(beast, sort, day/2),
		sold(beast, owner, day),
		seen(beast, day, randomReading(x, b)),
		seen(beast, day, randomReading(x, b)),
		found(beast, owner, day),
		late(died(beast, day), 0),
	}
	e := l[x.IntN(len(l))]
	if e.Kind == api.EvDied && x.IntN(2) == 0 {
		e = l[1]
	}
	e.Known = x.IntN(someDays)
	return e
}

// randomList has the events of two manors, of which some are withdrawn.
func randomList(x *rand.Rand, b api.Marks) []api.Event {
	var l []api.Event
	for i := range 2 + x.IntN(22) {
		e := randomEvent(x, b)
		if i < someBeasts && x.IntN(4) > 0 { // most events are void without beasts
			e = late(born(i+1, 1+x.IntN(8)/7, 1+x.IntN(someOwners), x.IntN(i+1), i), x.IntN(5))
		} else if i > 0 && x.IntN(5) == 0 {
			e = withdraw(x.IntN(i), x.IntN(someDays))
		}
		e.At = api.Item{Manor: x.IntN(2), No: i}
		if e.Kind == api.EvWithdraw {
			e.Of.Manor = e.At.Manor
		}
		if more, f := herd.Add(l, e); f == api.OK {
			l = more
		}
	}
	return l
}

// A state is what the chapter says of all beasts, and which events are void.
type state struct {
	beasts map[int]api.Beast
	void   []api.Item
}

// stands is the chapter's sentence on events that stand.
func stands(l []api.Event, x api.Event, known int) bool {
	return x.Known <= known && !slices.ContainsFunc(l, func(y api.Event) bool {
		return y.Kind == api.EvWithdraw && y.Of == x.At && stands(l, y, known)
	})
}

// stateOf goes through the days, and on each of them through the list.
func stateOf(l []api.Event, day, known int) state {
	s := state{beasts: map[int]api.Beast{}}
	for on := range day + 1 {
		for _, x := range l {
			if x.Kind != api.EvWithdraw && x.Day == on && stands(l, x, known) && !s.apply(x) {
				s.void = append(s.void, x.At)
			}
		}
	}
	slices.SortFunc(s.void, func(a, b api.Item) int { return 10000*a.Manor + a.No - 10000*b.Manor - b.No })
	return s
}

// apply reports whether an event is not void.
func (s state) apply(x api.Event) bool {
	is, there := s.beasts[x.Beast]
	dam, damThere := s.beasts[x.Dam]
	dead := there && is.Died != -1
	void := !there
	switch x.Kind {
	case api.EvBorn:
		void = there || x.Dam != 0 && (!damThere || dam.Sort != x.Sort || dam.Died != -1 && dam.Died < x.Day)
		is = api.Beast{No: x.Beast, Sort: x.Sort, Dam: x.Dam, Owner: x.Owner, Bearer: x.Owner, Born: x.Day, Died: -1}
	case api.EvStray:
		void = there
		is = api.Beast{No: x.Beast, Sort: x.Sort, Born: x.Day, Died: -1}
	case api.EvSold:
		void = !there || dead || is.Owner == 0 || is.Owner == x.Owner
		is.Owner = x.Owner
	case api.EvSeen:
		is.Seen = append(slices.Clone(is.Seen), x.Seen)
	case api.EvFound:
		is.Owner, is.Found = x.Owner, true
	case api.EvDied:
		void = !there || dead
		is.Died = x.Day
	}
	if !void {
		s.beasts[x.Beast] = is
	}
	return !void
}

// bearersOf has the owners whose marks no reading costs more than what may be false.
func bearersOf(b api.Marks, readings []api.Reading) []int {
	var l []int
	for _, g := range b.Given {
		if !slices.ContainsFunc(readings, func(r api.Reading) bool { return costs(b.Wear, g.Mark, r) > b.False }) {
			l = append(l, g.Owner)
		}
	}
	return l
}

// costs is at how many places a reading has none of the worn signs of a mark.
func costs(w api.Wear, m api.Mark, r api.Reading) int {
	n := 0
	for i, sign := range m {
		if w[sign]&r[i] == 0 {
			n++
		}
	}
	return n
}

// tells is what is told of a beast by a state.
func (s state) tells(b api.Marks, no int) string {
	is, there := s.beasts[no]
	l := bearersOf(b, is.Seen)
	is.Seen = nil
	if !there {
		l = nil
	}
	return fmt.Sprint(there, is, l)
}

// apart has the beasts of which two states tell different things.
func apart(b api.Marks, one, other state) []int {
	return beastsOf(func(no int) bool { return one.tells(b, no) != other.tells(b, no) })
}

// told is what the package tells of a beast.
func told(t *testing.T, b api.Marks, l []api.Event, no, known int) string {
	t.Helper()
	is, e := herd.Beast(l, no, known)
	owners, f := herd.Bearers(b, l, no, known)
	if e != f || e != api.OK && e != api.ErrBeast {
		t.Fatal(l, no, known, e, f)
	}
	is.Seen = nil
	return fmt.Sprint(e == api.OK, is, owners)
}

// toldOfAll is what is told of all beasts of random lists.
func toldOfAll(t *testing.T, b api.Marks, l []api.Event, known int) []string {
	t.Helper()
	var all []string
	for no := 1; no <= someBeasts; no++ {
		all = append(all, told(t, b, l, no, known))
	}
	return all
}

// beastsOf has the beasts of random lists of which something is so.
func beastsOf(is func(no int) bool) []int {
	var l []int
	for no := 1; no <= someBeasts; no++ {
		if is(no) {
			l = append(l, no)
		}
	}
	return l
}

// one has a result and its error in one text; an empty list is as nil.
func one[T any](x T, e api.Errno) string { return fmt.Sprint(x, " ", int(e)) }

func want[T any](t *testing.T, name string, got T, e api.Errno, wanted T, wantedE api.Errno) {
	t.Helper()
	if g, w := one(got, e), one(wanted, wantedE); g != w {
		t.Errorf("%s: %s; want %s", name, g, w)
	}
}

func wantErrno(t *testing.T, name string, e, wanted api.Errno) {
	t.Helper()
	if e != wanted {
		t.Errorf("%s: %d; want %d", name, e, wanted)
	}
}

func wantEvents(t *testing.T, name string, got []api.Event, e api.Errno, wanted []api.Event, wantedE api.Errno) {
	t.Helper()
	if !slices.Equal(got, wanted) || e != wantedE {
		t.Errorf("%s: %v, %d; want %v, %d", name, got, e, wanted, wantedE)
	}
}
