package fine_test

import (
	"math"
	"reflect"
	"slices"
	"testing"

	"pinfold/api"
	"pinfold/fine"
)

// arguments are those of all functions.
type arguments struct {
	p                 api.Account
	t                 api.Tariff
	s                 api.Held
	n                 api.Note
	stay, source      int
	day, known        int
	days              []int
	l                 []api.Posting
	owner, way, party int
}

// good has no error.
func good() arguments {
	return arguments{
		p: example(), t: fullTariff(), s: fullStay(), n: api.Note{Source: 4, Stay: 1, Kind: api.Judged, Owner: 6, Day: 18, Known: 18},
		stay: 1, source: 2, day: 5, known: 20, days: []int{13, 14, 20},
		l:     postings([][5]int{{14, 1, 5, 0, 38}, {14, 1, 5, 1, 24}, {14, 1, 5, 11, 12}}),
		owner: 3, way: api.Released, party: 5,
	}
}

// fault makes one argument wrong.
type fault func(a *arguments)

// faults have one error: each of them is a way in which it comes about.
type faults struct {
	want api.Errno
	ways []fault
}

// faultsOf puts bad values in the place of an argument.
func faultsOf[T any](want api.Errno, of func(a *arguments) *T, bad ...T) faults {
	f := faults{want: want}
	for _, x := range bad {
		f.ways = append(f.ways, func(a *arguments) { *of(a) = x })
	}
	return f
}

// badDays are no lists of days.
func badDays() [][]int {
	return [][]int{{-1}, {api.MaxDay + 1}, {5, 5}, {5, 4}, {1, 2, 3, 3}, {math.MinInt, 0}, {0, math.MaxInt}, {0, 1, 2, 3, 4, 5, 6, 7, 8, 9, 10, 11, 12}, make([]int, 100000)}
}

func badAccount() faults {
	return faultsOf(api.ErrAccount, func(a *arguments) *api.Account { return &a.p }, badAccounts()...)
}

func wrongDays() faults {
	return faultsOf(api.ErrDays, func(a *arguments) *[]int { return &a.days }, badDays()...)
}

func badParty() faults {
	return faultsOf(api.ErrPurse, func(a *arguments) *int { return &a.party }, outside(0, 2+api.MaxOwner)...)
}

func badOwner() faults {
	return faultsOf(api.ErrArg, func(a *arguments) *int { return &a.owner }, outside(1, api.MaxOwner)...)
}

func badWay() faults {
	return faultsOf(api.ErrArg, func(a *arguments) *int { return &a.way }, outside(0, 4)...)
}

func badDay() faults {
	return faultsOf(api.ErrDay, func(a *arguments) *int { return &a.day }, outside(0, api.MaxDay)...)
}

func badKnown() faults {
	return faultsOf(api.ErrDay, func(a *arguments) *int { return &a.known }, outside(0, api.MaxDay)...)
}

func noStay() faults {
	f := faultsOf(api.ErrUnknown, func(a *arguments) *int { return &a.stay }, 0, 2, 3, -1, math.MaxInt, math.MinInt)
	f.ways = append(f.ways, faultsOf(api.ErrUnknown, func(a *arguments) *int { return &a.known }, 0, 9).ways...)
	return f
}

func noSource() faults {
	return faultsOf(api.ErrNone, func(a *arguments) *int { return &a.source }, 0, 4, -1, math.MaxInt, math.MinInt)
}

func noToll() faults {
	return faultsOf(api.ErrNoToll, func(a *arguments) *[]api.Tariff { return &a.p.Tariffs }, nil, []api.Tariff{{From: 6}})
}

func badNote() faults {
	same := good().n
	same.Source = 3
	return faultsOf(api.ErrNote, func(a *arguments) *api.Note { return &a.n }, append(badNotes(), same)...)
}

func wrongPostings() faults {
	return faultsOf(api.ErrPosted, func(a *arguments) *[]api.Posting { return &a.l }, wrongPosts(good().l)...)
}

// A question is a function, with the errors that it may have, in their order.
type question struct {
	name   string
	ask    func(a arguments) (any, api.Errno)
	errors []faults
}

// untyped makes a result one of any type.
func untyped[T any](x T, e api.Errno) (any, api.Errno) { return x, e }

// nothing is beside an error that is the only result.
func nothing(e api.Errno) (any, api.Errno) { return 0, e }

// checks are the questions whether something is valid, and of notes and tariffs.
func checks(p faults) []question {
	tariff := faultsOf(api.ErrTariff, func(a *arguments) *api.Tariff { return &a.t }, badTariffs()...)
	stay := faultsOf(api.ErrHeld, func(a *arguments) *api.Held { return &a.s }, badStays()...)
	note := faultsOf(api.ErrNote, func(a *arguments) *api.Note { return &a.n }, badNotes()...)
	return []question{
		{"CheckTariff", func(a arguments) (any, api.Errno) { return nothing(fine.CheckTariff(a.t)) }, []faults{tariff}},
		{"CheckHeld", func(a arguments) (any, api.Errno) { return nothing(fine.CheckHeld(a.s)) }, []faults{stay}},
		{"CheckNote", func(a arguments) (any, api.Errno) { return nothing(fine.CheckNote(a.n)) }, []faults{note}},
		{"Check", func(a arguments) (any, api.Errno) { return nothing(fine.Check(a.p)) }, []faults{p}},
		{"Noted", func(a arguments) (any, api.Errno) { return untyped(fine.Noted(a.p, a.n)) }, []faults{p, badNote()}},
		{"InForce", func(a arguments) (any, api.Errno) { return untyped(fine.InForce(a.p, a.day)) }, []faults{p, badDay(), noToll()}},
	}
}

// asks are the questions of stays and postings.
func asks(p faults) []question {
	known, days := badKnown(), wrongDays()
	ofStay := []faults{p, known, noStay()}
	return []question{
		{"Stays", func(a arguments) (any, api.Errno) { return untyped(fine.Stays(a.p, a.known)) }, []faults{p, known}},
		{"Notes", func(a arguments) (any, api.Errno) { return untyped(fine.Notes(a.p, a.stay, a.known)) }, ofStay},
		{"Lot", func(a arguments) (any, api.Errno) { return untyped(fine.Lot(a.p, a.stay, a.known)) }, ofStay},
		{"Fed", func(a arguments) (any, api.Errno) { return untyped(fine.Fed(a.p, a.stay, a.known)) }, ofStay},
		{"Charged", func(a arguments) (any, api.Errno) { return untyped(fine.Charged(a.p, a.stay, a.known)) }, ofStay},
		{"Dues", func(a arguments) (any, api.Errno) { return untyped(fine.Dues(a.p, a.stay, a.known)) }, ofStay},
		{"Posts", func(a arguments) (any, api.Errno) { return untyped(fine.Posts(a.p, a.days)) }, []faults{p, days}},
		{"CheckPosts", func(a arguments) (any, api.Errno) { return nothing(fine.CheckPosts(a.p, a.days, a.l)) }, []faults{p, days, wrongPostings()}},
		{"Balance", func(a arguments) (any, api.Errno) { return untyped(fine.Balance(a.p, a.days, a.party)) }, []faults{p, days, badParty()}},
		{"Owed", func(a arguments) (any, api.Errno) { return untyped(fine.Owed(a.p, a.owner, a.known)) }, []faults{p, badOwner(), known}},
		{"Inside", func(a arguments) (any, api.Errno) { return untyped(fine.Inside(a.p, a.known)) }, []faults{p, known}},
		{"Ended", func(a arguments) (any, api.Errno) { return untyped(fine.Ended(a.p, a.way, a.known)) }, []faults{p, badWay(), known}},
		{"Moved", func(a arguments) (any, api.Errno) { return untyped(fine.Moved(a.p, a.source, a.known)) }, []faults{p, known, noSource()}},
	}
}

func questions() []question {
	p := badAccount()
	return slices.Concat(checks(p), asks(p))
}

// P6.1: of several errors the one named first is returned, and zero values beside it (R1, R2).
func TestErrors(t *testing.T) {
	for _, q := range questions() {
		if _, e := q.ask(good()); e != api.OK {
			t.Error(q.name, e)
		}
		for i, first := range q.errors {
			for _, way := range first.ways {
				wantError(t, q, first.want, way)
				for _, second := range q.errors[i+1:] {
					for _, other := range second.ways {
						// The first error comes last: where both are of one argument it stays.
						wantError(t, q, first.want, other, way)
					}
				}
			}
		}
	}
}

func wantError(t *testing.T, q question, wanted api.Errno, ways ...fault) {
	t.Helper()
	a := good()
	for _, way := range ways {
		way(&a)
	}
	got, e := q.ask(a)
	if e != wanted || !isZero(got) {
		t.Errorf("%s: %v, %d; want %d", q.name, got, e, wanted)
	}
}

// isZero reports whether a result is a zero value: an empty list is one, too.
func isZero(x any) bool {
	switch x := x.(type) {
	case []int:
		return len(x) == 0
	case []api.Posting:
		return len(x) == 0
	case api.Account:
		return len(x.Tariffs)+len(x.Stays)+len(x.Notes) == 0
	}
	return reflect.ValueOf(x).IsZero()
}

// P6.1: no argument is changed, and no result shares memory with one, or with another list of it (R4).
func TestMemory(t *testing.T) {
	for _, q := range questions() {
		a, whole := good(), good()
		a.p.Tariffs, a.p.Stays, a.p.Notes = slices.Grow(a.p.Tariffs, 10), slices.Grow(a.p.Stays, 10), slices.Grow(a.p.Notes, 10)
		a.days, a.l = slices.Grow(a.days, 10), slices.Grow(a.l, 10)
		got, e := q.ask(a)
		wantErrno(t, q.name, e, api.OK)
		again, e := q.ask(a)
		wantErrno(t, q.name, e, api.OK)
		if !reflect.DeepEqual(got, again) {
			t.Error(q.name, got, again)
		}
		spoil(got)
		p := a.p
		behind := p.Tariffs[:len(p.Tariffs)+1][len(p.Tariffs)] == api.Tariff{} && p.Stays[:len(p.Stays)+1][len(p.Stays)] == api.Held{} &&
			p.Notes[:len(p.Notes)+1][len(p.Notes)] == api.Note{} && a.days[:len(a.days)+1][len(a.days)] == 0
		if !reflect.DeepEqual(a, whole) || !behind {
			t.Error(q.name, a)
		}
	}
}

// fill overwrites a list, and what may lie behind it.
func fill[T any](l []T, x T) {
	for i := range l[:cap(l)] {
		l[:cap(l)][i] = x
	}
}

// spoil overwrites all that a result has.
func spoil(x any) {
	switch x := x.(type) {
	case []int:
		fill(x, 77)
	case []api.Posting:
		fill(x, api.Posting{Day: 77})
	case api.Account:
		fill(x.Tariffs, api.Tariff{From: 77})
		fill(x.Stays, api.Held{Source: 77})
		fill(x.Notes, api.Note{Source: 77})
	}
}

// P6.1: nil and empty lists are the same (R3).
func TestNilAndEmpty(t *testing.T) {
	for _, q := range questions() {
		a, b := good(), good()
		a.p, a.days, a.l = api.Account{}, nil, nil
		b.p, b.days, b.l = api.Account{Tariffs: []api.Tariff{}, Stays: []api.Held{}, Notes: []api.Note{}}, []int{}, []api.Posting{}
		got, e := q.ask(a)
		again, again0 := q.ask(b)
		if one(got, e) != one(again, again0) {
			t.Error(q.name, got, e, again, again0)
		}
	}
	wantErrno(t, "no postings", fine.CheckPosts(example(), nil, []api.Posting{}), api.OK)
}

// P6.1: the limits of days, parties, owners and ways themselves are no errors.
func TestArgumentsAtTheirLimits(t *testing.T) {
	p := example()
	for _, day := range []int{0, api.MaxDay} {
		_, e := fine.InForce(p, day)
		wantErrno(t, "InForce", e, api.OK)
		_, e = fine.Stays(p, day)
		wantErrno(t, "Stays", e, api.OK)
		_, e = fine.Inside(p, day)
		wantErrno(t, "Inside", e, api.OK)
		_, e = fine.Moved(p, 1, day)
		wantErrno(t, "Moved", e, api.OK)
	}
	for _, owner := range []int{1, api.MaxOwner} {
		n, e := fine.Owed(p, owner, api.MaxDay)
		want(t, "Owed", n, e, 0, api.OK)
	}
	for _, party := range []int{0, 2 + api.MaxOwner} {
		_, e := fine.Balance(p, nil, party)
		wantErrno(t, "Balance", e, api.OK)
	}
	for way := range 5 {
		_, e := fine.Ended(p, way, 0)
		wantErrno(t, "Ended", e, api.OK)
	}
	p.Notes = []api.Note{{Source: 2, Stay: 1, Kind: api.Judged, Owner: api.MaxOwner, Day: 11, Known: 11}}
	want(t, "Posts", postsOf(t, p, []int{11})[0], api.OK, api.Posting{Day: 11, Stay: 1, From: 101, To: 0, Amount: 18}, api.OK)
}
