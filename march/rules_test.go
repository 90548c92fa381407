package march_test

import (
	"reflect"
	"slices"
	"testing"

	"pinfold/api"
	"pinfold/march"
)

// arguments are those of all functions.
type arguments struct {
	x                 api.Entry
	p                 api.Pound
	r                 api.Rider
	me, to, from      int
	fresh, held, seen int // beasts: one that is not there, one that is here, and one of which entries tell
	ride, no          int
	keep              int
	l                 []api.Pound
	text              string
}

// good has no error.
func good() arguments {
	return arguments{
		x: en(api.EnSend, 8, 1, 1), p: busy(), r: rider(api.RdRefused, 3, 2, 9, 2), me: 3, to: 4, from: 4, fresh: 12, held: 7, seen: 9, ride: 1, no: 5, keep: 1,
		l: manyPounds(), text: retoldPrint(busy()),
	}
}

// fault makes one argument wrong.
type fault func(a *arguments)

// faults have one error: each of them is a way in which it comes about.
type faults struct {
	want api.Errno
	ways []fault
}

// faultsOf puts bad values in the place of an argument.
func faultsOf[T any](want api.Errno, of func(a *arguments) *T, bad ...T) faults {
	f := faults{want: want}
	for _, x := range bad {
		f.ways = append(f.ways, func(a *arguments) { *of(a) = x })
	}
	return f
}

func freshOf(a *arguments) *int { return &a.fresh }

func heldOf(a *arguments) *int { return &a.held }

func rideOf(a *arguments) *int { return &a.ride }

func badPound() faults {
	return faultsOf(api.ErrJournal, func(a *arguments) *api.Pound { return &a.p }, badPounds()...)
}

func badRider() faults {
	mine := []api.Rider{rider(api.RdRefused, 3, 1, 9, 2), rider(api.RdOffer, 2, 3, 12, 7)}
	return faultsOf(api.ErrRider, func(a *arguments) *api.Rider { return &a.r }, append(badRiders(), mine...)...)
}

// fullPound has a pound whose journal is full, and in which nothing else is different.
func fullPound() faults {
	return faultsOf(api.ErrLong, func(a *arguments) *api.Pound { return &a.p }, full())
}

// A question is a function, with the errors that it may have, in their order.
type question struct {
	name   string
	ask    func(a arguments) (any, api.Errno)
	errors []faults
}

// untyped makes a result one of any type.
func untyped[T any](x T, e api.Errno) (any, api.Errno) { return x, e }

// results are several, of any types.
type results []any

func twoOf[A, B any](a A, b B, e api.Errno) (any, api.Errno) { return results{a, b}, e }

// nothing is beside an error that is the only result.
func nothing(e api.Errno) (any, api.Errno) { return 0, e }

// ofChanges are the questions of what is valid, and of what puts entries behind a journal.
func ofChanges() []question {
	pound := badPound()
	entry := faultsOf(api.ErrArg, func(a *arguments) *api.Entry { return &a.x }, badEntries()...)
	me := faultsOf(api.ErrManor, func(a *arguments) *int { return &a.me }, outside(0, 5)...)
	to := faultsOf(api.ErrManor, func(a *arguments) *int { return &a.to }, append(outside(0, 5), 2)...)
	noFresh, noHeld := faultsOf(api.ErrArg, freshOf, outside(1, 9999)...), faultsOf(api.ErrArg, heldOf, outside(1, 9999)...)
	isHere := faultsOf(api.ErrHere, freshOf, 7, 8, 9, 10)
	isGone := faultsOf(api.ErrGone, heldOf, 8, 9, 11, 12, 9999)
	ride := faultsOf(api.ErrRide, rideOf, append(outside(1, 200), 2, 3, 5, 6, 200)...)
	return []question{
		{"CheckEntry", func(a arguments) (any, api.Errno) { return nothing(march.CheckEntry(a.x)) }, []faults{entry}},
		{"Check", func(a arguments) (any, api.Errno) { return nothing(march.Check(a.p)) }, []faults{pound}},
		{"CheckRider", func(a arguments) (any, api.Errno) { return nothing(march.CheckRider(a.r)) }, []faults{faultsOf(api.ErrRider, func(a *arguments) *api.Rider { return &a.r }, badRiders()...)}},
		{"New", func(a arguments) (any, api.Errno) { return untyped(march.New(a.me)) }, []faults{me}},
		{"Impound", func(a arguments) (any, api.Errno) { return untyped(march.Impound(a.p, a.fresh)) }, []faults{pound, noFresh, isHere, fullPound()}},
		{"Release", func(a arguments) (any, api.Errno) { return untyped(march.Release(a.p, a.held)) }, []faults{pound, noHeld, isGone, fullPound()}},
		{"Send", func(a arguments) (any, api.Errno) { return twoOf(march.Send(a.p, a.held, a.to)) }, []faults{pound, noHeld, to, isGone, fullPound()}},
		{"Call", func(a arguments) (any, api.Errno) { return untyped(march.Call(a.p, a.ride)) }, []faults{pound, ride, fullPound()}},
		{"Hear", func(a arguments) (any, api.Errno) { return untyped(march.Hear(a.p, a.r)) }, []faults{pound, badRider(), fullPound()}},
		{"Hear of nothing new", func(a arguments) (any, api.Errno) { return untyped(march.Hear(a.p, rider(api.RdOffer, 4, 2, 10, 5))) }, []faults{pound}},
		{"Sync", func(a arguments) (any, api.Errno) { return untyped(march.Sync(a.p)) }, []faults{pound}},
		{"Crash", func(a arguments) (any, api.Errno) { return untyped(march.Crash(a.p, a.keep)) }, []faults{pound}},
	}
}

// ofTold are the questions of what is told.
func ofTold() []question {
	pound := badPound()
	to := faultsOf(api.ErrManor, func(a *arguments) *int { return &a.to }, append(outside(0, 5), 2)...)
	from := faultsOf(api.ErrManor, func(a *arguments) *int { return &a.from }, append(outside(0, 5), 2)...)
	no := faultsOf(api.ErrRide, func(a *arguments) *int { return &a.no }, outside(1, 200)...)
	seen := faultsOf(api.ErrArg, func(a *arguments) *int { return &a.seen }, outside(1, 9999)...)
	pounds := faultsOf(api.ErrPounds, func(a *arguments) *[]api.Pound { return &a.l }, badLists()...)
	long := faultsOf(api.ErrLong, func(a *arguments) *string { return &a.text }, string(make([]byte, 8001)), retoldPrint(filled(api.Pound{}, 2000)))
	text := faultsOf(api.ErrJournal, func(a *arguments) *string { return &a.text }, "pound 6 0\n", "pound 0 1\n", "pound 0 0\npound 0\n")
	return []question{
		{"Out", func(a arguments) (any, api.Errno) { return untyped(march.Out(a.p, a.to)) }, []faults{pound, to}},
		{"Here", func(a arguments) (any, api.Errno) { return untyped(march.Here(a.p)) }, []faults{pound}},
		{"Rides", func(a arguments) (any, api.Errno) { return untyped(march.Rides(a.p)) }, []faults{pound}},
		{"Knows", func(a arguments) (any, api.Errno) { return untyped(march.Knows(a.p, a.from, a.no)) }, []faults{pound, from, no}},
		{"Trace", func(a arguments) (any, api.Errno) { return untyped(march.Trace(a.p, a.seen)) }, []faults{pound, seen}},
		{"Where", func(a arguments) (any, api.Errno) { return untyped(march.Where(a.l, a.seen)) }, []faults{pounds, seen}},
		{"Riding", func(a arguments) (any, api.Errno) { return untyped(march.Riding(a.l, a.seen)) }, []faults{pounds, seen}},
		{"Print", func(a arguments) (any, api.Errno) { return untyped(march.Print(a.p)) }, []faults{pound}},
		{"Parse", func(a arguments) (any, api.Errno) { return twoOf(march.Parse(a.text)) }, []faults{long, text}},
	}
}

func questions() []question { return append(ofChanges(), ofTold()...) }

// P9.1: of several errors the one named first is returned, and zero values beside it (R1, R2).
func TestErrors(t *testing.T) {
	for _, q := range questions() {
		if _, e := q.ask(good()); e != api.OK {
			t.Error(q.name, e)
		}
		for i, first := range q.errors {
			for _, way := range first.ways {
				wantError(t, q, first.want, way)
				for _, second := range q.errors[i+1:] {
					for _, other := range second.ways {
						// The first error comes last: where both are of one argument it stays.
						wantError(t, q, first.want, other, way)
					}
				}
			}
		}
	}
}

func wantError(t *testing.T, q question, wanted api.Errno, ways ...fault) {
	t.Helper()
	a := good()
	for _, way := range ways {
		way(&a)
	}
	got, e := q.ask(a)
	if e != wanted || !isZero(got) {
		t.Errorf("%s: %.300v, %d; want %d", q.name, got, e, wanted)
	}
}

// isZero reports whether a result is a zero value: an empty list is one, too.
func isZero(x any) bool {
	switch x := x.(type) {
	case results:
		return !slices.ContainsFunc(x, func(x any) bool { return !isZero(x) })
	case api.Pound:
		return x.Me == 0 && x.Firm == 0 && len(x.Journal) == 0
	}
	if v := reflect.ValueOf(x); v.Kind() == reflect.Slice {
		return v.Len() == 0
	}
	return reflect.ValueOf(x).IsZero()
}

// P9.1: whatever the numbers are, nothing panics, and errors are beside zero values (P1, R2).
func TestAnyNumbers(t *testing.T) {
	numbers := append(outside(0, 5), outside(1, 9999)...)
	for _, q := range questions() {
		for _, n := range append(numbers, outside(1, 200)...) {
			for _, of := range []func(a *arguments) *int{freshOf, heldOf, rideOf, func(a *arguments) *int { return &a.keep }, func(a *arguments) *int { return &a.p.Firm }, func(a *arguments) *int { return &a.p.Me }} {
				a := good()
				*of(&a) = n
				if got, e := q.ask(a); e != api.OK && !isZero(got) {
					t.Error(q.name, n, got, e)
				}
			}
		}
	}
}

// roomy has room behind each of its lists.
func roomy() arguments {
	a := good()
	a.p.Journal = slices.Grow(a.p.Journal, 20)
	a.l = slices.Grow(a.l, 20)
	for i := range a.l {
		a.l[i].Journal = slices.Grow(a.l[i].Journal, 20)
	}
	return a
}

// behind are the lists, with what lies behind them.
func behind(a arguments) any {
	l := []any{a.p.Journal[:cap(a.p.Journal)], a.l[:cap(a.l)]}
	for _, p := range a.l {
		l = append(l, p.Journal[:cap(p.Journal)])
	}
	return l
}

// P9.1: no argument is changed, and no result shares memory with one (R4).
func TestMemory(t *testing.T) {
	for _, q := range questions() {
		a, whole := roomy(), roomy()
		got, e := q.ask(a)
		wantErrno(t, q.name, e, api.OK)
		again, e := q.ask(a)
		wantErrno(t, q.name, e, api.OK)
		if !reflect.DeepEqual(got, again) {
			t.Error(q.name, got, again)
		}
		spoilAll(got)
		if !reflect.DeepEqual(a, whole) || !reflect.DeepEqual(behind(a), behind(whole)) {
			t.Error(q.name, a)
		}
		if once, e := q.ask(a); e != api.OK || !reflect.DeepEqual(once, again) {
			t.Error(q.name, once, again)
		}
	}
}

// spoilAll overwrites the lists of a result, and what may lie behind them.
func spoilAll(x any) {
	switch x := x.(type) {
	case results:
		for _, one := range x {
			spoilAll(one)
		}
	case api.Pound:
		spoilList(x.Journal, api.Entry{Kind: 77})
	case []api.Entry:
		spoilList(x, api.Entry{Kind: 77})
	case []api.Rider:
		spoilList(x, api.Rider{Kind: 77})
	case []api.Ride:
		spoilList(x, api.Ride{No: 77})
	case []int:
		spoilList(x, 77)
	}
}

func spoilList[T any](l []T, bad T) {
	for i := range l[:cap(l)] {
		l[:cap(l)][i] = bad
	}
}

// P9.1: nil and empty lists are the same (R3).
func TestNilAndEmpty(t *testing.T) {
	for _, q := range questions() {
		a, b := good(), good()
		a.p, a.l = api.Pound{Me: 2}, nil
		b.p, b.l = api.Pound{Me: 2, Journal: []api.Entry{}}, []api.Pound{}
		got, e := q.ask(a)
		again, again0 := q.ask(b)
		if one(got, e) != one(again, again0) {
			t.Error(q.name, got, e, again, again0)
		}
	}
	for _, journal := range [][]api.Entry{nil, {}} {
		l := []api.Pound{{Me: 1, Journal: journal}, {Me: 4, Journal: journal}}
		manors, e := march.Where(l, 7)
		want(t, "Where", manors, e, nil, api.OK)
	}
}

// P9.1: a change leaves the pound that it was made of as it is, so that several can be made of it.
func TestChangesOfOnePound(t *testing.T) {
	p := roomy().p
	first, e := march.Impound(p, 20)
	wantErrno(t, "Impound", e, api.OK)
	second, e := march.Impound(p, 21)
	wantErrno(t, "Impound", e, api.OK)
	want(t, "Impound", first, e, with(busy(), en(api.EnPound, 20)), api.OK)
	want(t, "Impound", second, e, with(busy(), en(api.EnPound, 21)), api.OK)
	third, e := march.Release(first, 7)
	wantErrno(t, "Release", e, api.OK)
	fourth, e := march.Call(first, 1)
	want(t, "Call", fourth, e, with(busy(), en(api.EnPound, 20), en(api.EnCall, 8, 1, 1)), api.OK)
	want(t, "Release", third, e, with(busy(), en(api.EnPound, 20), en(api.EnRelease, 7)), api.OK)
}
