package herd_test

import (
	"fmt"
	"reflect"
	"slices"
	"testing"

	"pinfold/api"
	"pinfold/herd"
)

// arguments are those of any function that asks something of a list of events.
type arguments struct {
	b           api.Marks
	l           []api.Event
	no          int
	owner, sort int
	day, known  int
	later       int
	at          api.Item
}

// good has no error.
func good() arguments {
	return arguments{b: bookB(), l: example(), no: 20, owner: 2, sort: 3, day: 7, known: 9, later: 10, at: item(5)}
}

// fault makes one argument wrong.
type fault func(a *arguments)

// faults have one error: each of them is a way in which it comes about.
type faults struct {
	want api.Errno
	ways []fault
}

func numberFaults(of func(a *arguments) *int, bad ...int) []fault {
	var l []fault
	for _, n := range bad {
		l = append(l, func(a *arguments) { *of(a) = n })
	}
	return l
}

func bookFaults() []fault {
	var l []fault
	for _, b := range badBooks() {
		l = append(l, func(a *arguments) { a.b = b })
	}
	return l
}

func listFaults() []fault {
	var l []fault
	for _, bad := range badLists() {
		l = append(l, func(a *arguments) { a.l = bad })
	}
	return l
}

func itemFaults(bad ...api.Item) []fault {
	var l []fault
	for _, at := range bad {
		l = append(l, func(a *arguments) { a.at = at })
	}
	return l
}

var (
	badBook  = faults{api.ErrMarks, bookFaults()}
	badList  = faults{api.ErrEvents, listFaults()}
	badBeast = faults{api.ErrArg, numberFaults(func(a *arguments) *int { return &a.no }, -1, 0, api.MaxBeast+1, 1<<62)}
	badOwner = faults{api.ErrArg, numberFaults(func(a *arguments) *int { return &a.owner }, -1, 0, api.MaxOwner+1, 1<<62)}
	badSort  = faults{api.ErrArg, numberFaults(func(a *arguments) *int { return &a.sort }, -1, 0, api.MaxSort+1, 1<<62)}
	badDay   = faults{api.ErrDay, numberFaults(func(a *arguments) *int { return &a.day }, -1, api.MaxDay+1, -1<<63)}
	badKnown = faults{api.ErrDay, numberFaults(func(a *arguments) *int { return &a.known }, -1, api.MaxDay+1, -1<<63)}
	badLater = faults{api.ErrDay, numberFaults(func(a *arguments) *int { return &a.later }, -1, api.MaxDay+1, -1<<63)}
	noBeast  = faults{api.ErrBeast, numberFaults(func(a *arguments) *int { return &a.no }, 1, 12, api.MaxBeast)}
	notYet   = faults{api.ErrBeast, numberFaults(func(a *arguments) *int { return &a.known }, 0, 5)}
	notThen  = faults{api.ErrBeast, numberFaults(func(a *arguments) *int { return &a.day }, 0, 5)}
	noItem   = faults{api.ErrNone, itemFaults(item(10), item(-1), api.Item{Manor: 1, No: 5}, api.Item{Manor: 6})}
)

// A question is a function, with the errors that it may have, in their order.
type question struct {
	name   string
	ask    func(a arguments) (any, api.Errno)
	errors []faults
}

// untyped makes a result one of any type.
func untyped[T any](x T, e api.Errno) (any, api.Errno) { return x, e }

func questions() []question {
	return []question{
		{"Without", func(a arguments) (any, api.Errno) { return untyped(herd.Without(a.l, a.at)) }, []faults{badList, noItem}},
		{"Standing", func(a arguments) (any, api.Errno) { return untyped(herd.Standing(a.l, a.known)) }, []faults{badList, badKnown}},
		{"Void", func(a arguments) (any, api.Errno) { return untyped(herd.Void(a.l, a.known)) }, []faults{badList, badKnown}},
		{"Dates", func(a arguments) (any, api.Errno) { return untyped(herd.Dates(a.l)) }, []faults{badList}},
		{"Beast", func(a arguments) (any, api.Errno) { return untyped(herd.Beast(a.l, a.no, a.known)) },
			[]faults{badList, badBeast, badKnown, noBeast, notYet}},
		{"Alive", func(a arguments) (any, api.Errno) { return untyped(herd.Alive(a.l, a.day, a.known)) },
			[]faults{badList, badDay, badKnown}},
		{"Held", func(a arguments) (any, api.Errno) { return untyped(herd.Held(a.l, a.no, a.day, a.known)) },
			[]faults{badList, badBeast, badDay, badKnown, noBeast, notYet, notThen}},
		{"Count", func(a arguments) (any, api.Errno) { return untyped(herd.Count(a.l, a.owner, a.sort, a.day, a.known)) },
			[]faults{badList, badOwner, badSort, badDay, badKnown}},
		{"Bearers", func(a arguments) (any, api.Errno) { return untyped(herd.Bearers(a.b, a.l, a.no, a.known)) },
			[]faults{badBook, badList, badBeast, badKnown, noBeast, notYet}},
		{"Wrong", func(a arguments) (any, api.Errno) { return untyped(herd.Wrong(a.b, a.l, a.known)) },
			[]faults{badBook, badList, badKnown}},
		{"Line", func(a arguments) (any, api.Errno) { return untyped(herd.Line(a.l, a.no, a.known)) },
			[]faults{badList, badBeast, badKnown, noBeast, notYet}},
		{"Moved", func(a arguments) (any, api.Errno) { return untyped(herd.Moved(a.b, a.l, a.at, a.known)) },
			[]faults{badBook, badList, badKnown, noItem}},
		{"Changed", func(a arguments) (any, api.Errno) { return untyped(herd.Changed(a.b, a.l, a.known, a.later)) },
			[]faults{badBook, badList, badKnown, badLater}},
		{"Rests", func(a arguments) (any, api.Errno) { return untyped(herd.Rests(a.b, a.l, a.no, a.known)) },
			[]faults{badBook, badList, badBeast, badKnown, noBeast, notYet}},
	}
}

// P4.1: of several errors the one named first is returned, and zero values beside it (R1, R2).
func TestErrors(t *testing.T) {
	for _, q := range questions() {
		if _, e := q.ask(good()); e != api.OK {
			t.Error(q.name, e)
		}
		for i, first := range q.errors {
			for _, way := range first.ways {
				wantError(t, q, first.want, way)
				for _, second := range q.errors[i+1:] {
					for _, other := range second.ways {
						// The first error comes last: where both are of one argument it stays.
						wantError(t, q, first.want, other, way)
					}
				}
			}
		}
	}
}

func wantError(t *testing.T, q question, wanted api.Errno, ways ...fault) {
	t.Helper()
	a := good()
	for _, way := range ways {
		way(&a)
	}
	got, e := q.ask(a)
	if e != wanted || !isZero(got) {
		t.Errorf("%s: %v, %d; want %d", q.name, got, e, wanted)
	}
}

func isZero(x any) bool {
	v := reflect.ValueOf(x)
	return v.IsZero() || v.Kind() == reflect.Slice && v.Len() == 0
}

// P4.1: the limits of days, beasts, owners and sorts themselves are no errors.
func TestArgumentsAtTheirLimits(t *testing.T) {
	for _, day := range []int{0, api.MaxDay} {
		for _, n := range []arguments{{no: 1, owner: 1, sort: 1}, {no: api.MaxBeast, owner: api.MaxOwner, sort: api.MaxSort}} {
			a := arguments{b: bookB(), l: []api.Event{born(n.no, n.sort, n.owner, 0, 0)}, no: n.no, owner: n.owner, sort: n.sort, day: day, known: day, later: day}
			for _, q := range questions() {
				if _, e := q.ask(a); e != api.OK {
					t.Error(q.name, a, e)
				}
			}
			if got, e := herd.Count(a.l, n.owner, n.sort, day, day); got != 1 || e != api.OK {
				t.Error(a, got, e)
			}
			if got, e := herd.Held(a.l, n.no, day, day); got != n.owner || e != api.OK {
				t.Error(a, got, e)
			}
		}
	}
}

// P4.1: a full list has no error, and what happened on the last day is told.
func TestFullList(t *testing.T) {
	l := fullList()
	l[59] = late(died(api.MaxBeast, api.MaxDay), 0)
	l[59].At = api.Item{Manor: 5, No: api.MaxNo}
	for _, q := range questions() {
		a := arguments{b: bookB(), l: l, no: api.MaxBeast, owner: 1, sort: 1, day: api.MaxDay, known: api.MaxDay, later: 0, at: l[59].At}
		if _, e := q.ask(a); e != api.OK {
			t.Error(q.name, e)
		}
	}
	is, e := herd.Beast(l, api.MaxBeast, 0)
	want(t, "Beast", is, e, api.Beast{No: api.MaxBeast, Sort: api.MaxSort, Owner: api.MaxOwner, Bearer: api.MaxOwner, Died: api.MaxDay}, api.OK)
	is, e = herd.Beast(l, api.MaxBeast, api.MaxDay)
	if len(is.Seen) != 58 || e != api.OK {
		t.Error(len(is.Seen), e)
	}
	for day, wanted := range map[int][]int{0: {api.MaxBeast}, api.MaxDay - 1: {api.MaxBeast}, api.MaxDay: nil} {
		alive, e := herd.Alive(l, day, 0)
		want(t, "Alive", alive, e, wanted, api.OK)
	}
}

// P4.1: an empty list is as nil (R3), and nothing is told of it.
func TestNothing(t *testing.T) {
	wanted := map[string]api.Errno{"Without": api.ErrNone, "Moved": api.ErrNone, "Beast": api.ErrBeast, "Held": api.ErrBeast, "Bearers": api.ErrBeast, "Line": api.ErrBeast, "Rests": api.ErrBeast}
	for _, l := range [][]api.Event{nil, {}} {
		for _, q := range questions() {
			a := good()
			a.l = l
			got, e := q.ask(a)
			if e != wanted[q.name] || !isZero(got) {
				t.Error(q.name, got, e)
			}
			a = good()
			a.b.Given = nil
			empty, e := q.ask(a)
			a.b.Given = []api.Given{}
			same, f := q.ask(a)
			if e != api.OK || f != api.OK || fmt.Sprint(empty) != fmt.Sprint(same) {
				t.Error(q.name, empty, e, same, f)
			}
		}
		got, e := herd.Join(l, []api.Event{})
		wantEvents(t, "Join", got, e, nil, api.OK)
		got, e = herd.Join(l, example())
		wantEvents(t, "Join", got, e, example(), api.OK)
		got, e = herd.Join(example(), l)
		wantEvents(t, "Join", got, e, example(), api.OK)
	}
}

// P4.1: no argument is changed, and no result shares memory with one (R4).
func TestMemory(t *testing.T) {
	l := slices.Grow(example(), 10)
	room := l[:len(l)+1]
	last := died(1, 1)
	last.At.Manor = 5
	first, other := l[0], l[3]
	var results [][]api.Event
	keep := func(got []api.Event, e api.Errno) {
		wantErrno(t, "of memory", e, api.OK)
		results = append(results, got)
	}
	keep(herd.Join(l, nil))
	keep(herd.Join(nil, l))
	keep(herd.Join(l, l))
	keep(herd.Join(l[:5], l[3:]))
	keep(herd.Add(l, last))
	keep(herd.Add(l, other))
	keep(herd.Add(l[1:], first))
	keep(herd.Without(l, l[0].At))
	keep(herd.Without(l, l[9].At))
	for _, got := range results {
		for i := range got {
			got[i].Kind = 77
		}
		if !slices.Equal(l, example()) || room[len(l)] != (api.Event{}) {
			t.Fatal(room)
		}
	}
	for _, q := range questions() {
		a := good()
		a.l = l
		b := bookB()
		a.b = b
		if _, e := q.ask(a); e != api.OK || !slices.Equal(l, example()) || !reflect.DeepEqual(b, bookB()) {
			t.Error(q.name, e)
		}
	}
}

// P4.1: what a call returned stays as it is, whatever happens to what another one did (R4).
func TestResultsAreNew(t *testing.T) {
	l := listed(stray(1, 1, 1), seen(1, 2, readsAny), seen(1, 3, readsThird), seen(1, 4, readsAny))
	one, e := herd.Beast(l, 1, 9)
	wantErrno(t, "Beast", e, api.OK)
	two, e := herd.Beast(l, 1, 9)
	wantErrno(t, "Beast", e, api.OK)
	for i := range one.Seen {
		one.Seen[i] = api.Reading{}
	}
	want(t, "Beast", two, e, api.Beast{No: 1, Sort: 1, Born: 1, Died: -1, Seen: []api.Reading{readsAny, readsThird, readsAny}}, api.OK)
	if l[1].Seen != readsAny {
		t.Error(l)
	}
	b := bookB()
	owners, e := herd.Bearers(b, l, 1, 2)
	want(t, "Bearers", owners, e, []int{1, 2, 3}, api.OK)
	owners[0] = 77
	if !reflect.DeepEqual(b, bookB()) {
		t.Error(b)
	}
}
