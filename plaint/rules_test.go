package plaint_test

import (
	"math"
	"reflect"
	"slices"
	"testing"

	"pinfold/api"
	"pinfold/plaint"
)

// arguments are those of all functions.
type arguments struct {
	c          api.Case
	p          api.Plaint
	s          api.Surety
	f          api.Finding
	id, surety int
	source     int
	known      int
	pledge     api.Pledge // on the day 4
	set        []int
	l          []api.Levy
}

// good has no error.
func good() arguments {
	return arguments{
		c: example(), p: api.Plaint{Id: 7, Owner: 1, Beasts: []int{1, 2}, Claim: api.Range{Hi: 1}, Day: 1, Known: 1, Sureties: []int{1, 3}},
		s: api.Surety{Id: 4}, f: api.Finding{Source: 40, Plaint: 6, Day: 1, Known: 1, Amount: 70, Pays: 70},
		id: 5, surety: 2, source: 30, known: 12, pledge: api.Pledge{Rows: [][]int{{100, 20, 0}, {0, 40, 30}}}, set: []int{5, 6, 9},
		l: levies([][4]int{{8, 5, 0, 20}, {8, 5, 1, 90}, {12, 5, 0, 40}, {12, 5, 1, -90}}),
	}
}

// fault makes one argument wrong.
type fault func(a *arguments)

// faults have one error: each of them is a way in which it comes about.
type faults struct {
	want api.Errno
	ways []fault
}

// faultsOf puts bad values in the place of an argument.
func faultsOf[T any](want api.Errno, of func(a *arguments) *T, bad ...T) faults {
	f := faults{want: want}
	for _, x := range bad {
		f.ways = append(f.ways, func(a *arguments) { *of(a) = x })
	}
	return f
}

func badCase() faults {
	return faultsOf(api.ErrCase, func(a *arguments) *api.Case { return &a.c }, badCases()...)
}

func badKnown() faults {
	return faultsOf(api.ErrDay, func(a *arguments) *int { return &a.known }, outside(0, api.MaxDay)...)
}

// noPlaint has Ids that no plaint has, and a day on which none is entered.
func noPlaint() faults {
	f := faultsOf(api.ErrNone, func(a *arguments) *int { return &a.id }, 0, 4, 7, 10, -5, math.MaxInt, math.MinInt)
	f.ways = append(f.ways, func(a *arguments) { a.known = 1 })
	return f
}

func noFinding() faults {
	return faultsOf(api.ErrNone, func(a *arguments) *int { return &a.source }, 0, 29, 32, -30, math.MaxInt, math.MinInt)
}

func nothingFound() faults {
	return faultsOf(api.ErrNone, func(a *arguments) *int { return &a.id }, 6, 9)
}

func badSurety() faults {
	return faultsOf(api.ErrArg, func(a *arguments) *int { return &a.surety }, 3, 4, -1, -2, 1000, math.MaxInt, math.MinInt)
}

func badPlaint() faults {
	p := good().p
	l := append(badPlaints(), spoilt(p, func(p *api.Plaint) *int { return &p.Id }, 5, 6, 9)...)
	l = append(l, spoilt(p, func(p *api.Plaint) *[]int { return &p.Sureties }, []int{4}, []int{1, 2, 3, 4}, []int{1, 999})...)
	return faultsOf(api.ErrPlaint, func(a *arguments) *api.Plaint { return &a.p }, l...)
}

func badFinding() faults {
	f := good().f
	l := append(badFindings(), spoilt(f, func(f *api.Finding) *int { return &f.Source }, 30, 31)...)
	l = append(l, spoilt(f, func(f *api.Finding) *int { return &f.Plaint }, 1, 7, 9, 999)...)
	l = append(l, spoilt(f, func(f *api.Finding) *int { return &f.Amount }, 71)...)
	return faultsOf(api.ErrFinding, func(a *arguments) *api.Finding { return &a.f }, l...)
}

func badPledge() faults {
	return faultsOf(api.ErrPledge, func(a *arguments) *api.Pledge { return &a.pledge }, badPledges()...)
}

func badSet() faults {
	return faultsOf(api.ErrSet, func(a *arguments) *[]int { return &a.set }, badSets()...)
}

func badLevies() faults {
	return faultsOf(api.ErrLevies, func(a *arguments) *[]api.Levy { return &a.l }, wrongLevies(good().l)...)
}

func allGood() faults {
	return faultsOf(api.ErrGood, func(a *arguments) *int { return &a.known }, 0, 1, 5)
}

func isRefused() faults {
	return faultsOf(api.ErrRefused, func(a *arguments) *int { return &a.id }, 9)
}

// A question is a function, with the errors that it may have, in their order.
type question struct {
	name   string
	ask    func(a arguments) (any, api.Errno)
	errors []faults
}

// untyped makes a result one of any type.
func untyped[T any](x T, e api.Errno) (any, api.Errno) { return x, e }

// nothing is beside an error that is the only result.
func nothing(e api.Errno) (any, api.Errno) { return 0, e }

// checks are the questions whether something is valid, and those that change a case.
func checks(c faults) []question {
	p := faultsOf(api.ErrPlaint, func(a *arguments) *api.Plaint { return &a.p }, badPlaints()...)
	s := faultsOf(api.ErrSurety, func(a *arguments) *api.Surety { return &a.s }, badSureties()...)
	f := faultsOf(api.ErrFinding, func(a *arguments) *api.Finding { return &a.f }, badFindings()...)
	return []question{
		{"CheckPlaint", func(a arguments) (any, api.Errno) { return nothing(plaint.CheckPlaint(a.p)) }, []faults{p}},
		{"CheckSurety", func(a arguments) (any, api.Errno) { return nothing(plaint.CheckSurety(a.s)) }, []faults{s}},
		{"CheckFinding", func(a arguments) (any, api.Errno) { return nothing(plaint.CheckFinding(a.f)) }, []faults{f}},
		{"Check", func(a arguments) (any, api.Errno) { return nothing(plaint.Check(a.c)) }, []faults{c}},
		{"Plead", func(a arguments) (any, api.Errno) { return untyped(plaint.Plead(a.c, a.p)) }, []faults{c, badPlaint()}},
		{"Find", func(a arguments) (any, api.Errno) { return untyped(plaint.Find(a.c, a.f)) }, []faults{c, badFinding()}},
		{"Without", func(a arguments) (any, api.Errno) { return untyped(plaint.Without(a.c, a.source)) }, []faults{c, noFinding()}},
		{"Dates", func(a arguments) (any, api.Errno) { return untyped(plaint.Dates(a.c)) }, []faults{c}},
	}
}

// asks are the questions of what is known on a day.
func asks(c faults) []question {
	known := badKnown()
	onDay := []faults{c, known}
	checkPledge := func(a arguments) (any, api.Errno) {
		if a.known == good().known {
			a.known = 4
		}
		return nothing(plaint.CheckPledge(a.c, a.known, a.pledge))
	}
	return []question{
		{"Allowed", func(a arguments) (any, api.Errno) { return untyped(plaint.Allowed(a.c, a.known)) }, onDay},
		{"Refused", func(a arguments) (any, api.Errno) { return untyped(plaint.Refused(a.c, a.known)) }, onDay},
		{"Open", func(a arguments) (any, api.Errno) { return untyped(plaint.Open(a.c, a.known)) }, onDay},
		{"Free", func(a arguments) (any, api.Errno) { return untyped(plaint.Free(a.c, a.known)) }, onDay},
		{"Found", func(a arguments) (any, api.Errno) { return untyped(plaint.Found(a.c, a.id, a.known)) }, []faults{c, known, noPlaint(), nothingFound()}},
		{"Pledge", func(a arguments) (any, api.Errno) { return untyped(plaint.Pledge(a.c, a.known)) }, onDay},
		{"CheckPledge", checkPledge, []faults{c, known, badPledge()}},
		{"Short", func(a arguments) (any, api.Errno) { return untyped(plaint.Short(a.c, a.known)) }, []faults{c, known, allGood()}},
		{"CheckShort", func(a arguments) (any, api.Errno) { return nothing(plaint.CheckShort(a.c, a.known, a.set)) }, []faults{c, known, badSet()}},
		{"Spare", func(a arguments) (any, api.Errno) { return untyped(plaint.Spare(a.c, a.id, a.known)) }, []faults{c, known, noPlaint(), isRefused()}},
		{"Levies", func(a arguments) (any, api.Errno) { return untyped(plaint.Levies(a.c, a.known)) }, onDay},
		{"CheckLevies", func(a arguments) (any, api.Errno) { return nothing(plaint.CheckLevies(a.c, a.known, a.l)) }, []faults{c, known, badLevies()}},
		{"Owed", func(a arguments) (any, api.Errno) { return untyped(plaint.Owed(a.c, a.id, a.surety, a.known)) }, []faults{c, known, noPlaint(), badSurety()}},
		{"Moved", func(a arguments) (any, api.Errno) { return untyped(plaint.Moved(a.c, a.source, a.known)) }, []faults{c, known, noFinding()}},
	}
}

func questions() []question {
	c := badCase()
	return slices.Concat(checks(c), asks(c))
}

// P7.1: of several errors the one named first is returned, and zero values beside it (R1, R2).
func TestErrors(t *testing.T) {
	for _, q := range questions() {
		if _, e := q.ask(good()); e != api.OK {
			t.Error(q.name, e)
		}
		for i, first := range q.errors {
			for _, way := range first.ways {
				wantError(t, q, first.want, way)
				for _, second := range q.errors[i+1:] {
					for _, other := range second.ways {
						// The first error comes last: where both are of one argument it stays.
						wantError(t, q, first.want, other, way)
					}
				}
			}
		}
	}
}

func wantError(t *testing.T, q question, wanted api.Errno, ways ...fault) {
	t.Helper()
	a := good()
	for _, way := range ways {
		way(&a)
	}
	got, e := q.ask(a)
	if e != wanted || !isZero(got) {
		t.Errorf("%s: %v, %d; want %d", q.name, got, e, wanted)
	}
}

// isZero reports whether a result is a zero value: an empty list is one, too.
func isZero(x any) bool {
	switch x := x.(type) {
	case []int:
		return len(x) == 0
	case []api.Levy:
		return len(x) == 0
	case api.Pledge:
		return len(x.Rows) == 0
	case api.Case:
		return len(x.Plaints)+len(x.Sureties)+len(x.Findings) == 0
	}
	return reflect.ValueOf(x).IsZero()
}

// roomy has room behind each of its lists.
func roomy() arguments {
	a := good()
	a.c.Plaints, a.c.Sureties, a.c.Findings = slices.Grow(a.c.Plaints, 10), slices.Grow(a.c.Sureties, 10), slices.Grow(a.c.Findings, 10)
	for i := range a.c.Plaints {
		p := &a.c.Plaints[i]
		p.Beasts, p.Sureties = slices.Grow(p.Beasts, 10), slices.Grow(p.Sureties, 10)
	}
	a.p.Beasts, a.p.Sureties = slices.Grow(a.p.Beasts, 10), slices.Grow(a.p.Sureties, 10)
	a.pledge.Rows, a.set, a.l = slices.Grow(a.pledge.Rows, 10), slices.Grow(a.set, 10), slices.Grow(a.l, 10)
	return a
}

// behind are the lists of numbers, with what lies behind them.
func behind(a arguments) any {
	var l [][]int
	for _, p := range append(slices.Clone(a.c.Plaints), a.p) {
		l = append(l, p.Beasts[:cap(p.Beasts)], p.Sureties[:cap(p.Sureties)])
	}
	return []any{l, a.c.Plaints[:cap(a.c.Plaints)], a.c.Sureties[:cap(a.c.Sureties)], a.c.Findings[:cap(a.c.Findings)],
		a.pledge.Rows[:cap(a.pledge.Rows)], a.set[:cap(a.set)], a.l[:cap(a.l)]}
}

// P7.1: no argument is changed, and no result shares memory with one, or with another list of it (R4).
func TestMemory(t *testing.T) {
	for _, q := range questions() {
		a, whole := roomy(), roomy()
		got, e := q.ask(a)
		wantErrno(t, q.name, e, api.OK)
		again, e := q.ask(a)
		wantErrno(t, q.name, e, api.OK)
		if !reflect.DeepEqual(got, again) {
			t.Error(q.name, got, again)
		}
		spoil(t, got)
		if !reflect.DeepEqual(a, whole) || !reflect.DeepEqual(behind(a), behind(whole)) {
			t.Error(q.name, a)
		}
		if once, e := q.ask(a); e != api.OK || !reflect.DeepEqual(once, again) {
			t.Error(q.name, once, again)
		}
	}
}

// fill overwrites a list, and what may lie behind it.
func fill[T any](l []T, x T) {
	for i := range l[:cap(l)] {
		l[:cap(l)][i] = x
	}
}

// spoil overwrites all that a result has: each list with a number of its own, which no other one must get.
func spoil(t *testing.T, x any) {
	switch x := x.(type) {
	case []int:
		fill(x, 77)
	case []api.Levy:
		fill(x, api.Levy{Known: 77})
	case api.Pledge:
		spoilAll(t, x.Rows...)
		fill(x.Rows, nil)
	case api.Case:
		var lists [][]int
		for _, p := range x.Plaints {
			lists = append(lists, p.Beasts, p.Sureties)
		}
		spoilAll(t, lists...)
		fill(x.Plaints, api.Plaint{Id: 77})
		fill(x.Sureties, api.Surety{Id: 77})
		fill(x.Findings, api.Finding{Source: 77})
	}
}

func spoilAll(t *testing.T, lists ...[]int) {
	for i, l := range lists {
		fill(l, 77+i)
	}
	for i, l := range lists {
		if slices.ContainsFunc(l, func(n int) bool { return n != 77+i }) {
			t.Error("two lists share memory: ", lists)
		}
	}
}

// P7.1: nil and empty lists are the same (R3).
func TestNilAndEmpty(t *testing.T) {
	for _, q := range questions() {
		a, b := good(), good()
		a.c, a.pledge, a.set, a.l, a.p.Beasts = api.Case{}, api.Pledge{}, nil, nil, nil
		b.c = api.Case{Plaints: []api.Plaint{}, Sureties: []api.Surety{}, Findings: []api.Finding{}}
		b.pledge, b.set, b.l, b.p.Beasts = api.Pledge{Rows: [][]int{}}, []int{}, []api.Levy{}, []int{}
		got, e := q.ask(a)
		again, again0 := q.ask(b)
		if one(got, e) != one(again, again0) {
			t.Error(q.name, got, e, again, again0)
		}
	}
	for _, rows := range [][][]int{nil, {}} {
		wantErrno(t, "no pledge", plaint.CheckPledge(api.Case{}, 0, api.Pledge{Rows: rows}), api.OK)
	}
	for _, l := range [][]api.Levy{nil, {}} {
		wantErrno(t, "no levies", plaint.CheckLevies(example(), 7, l), api.OK)
	}
}

// P7.1: the limits of days themselves are no errors.
func TestDaysAtTheirLimits(t *testing.T) {
	for _, q := range questions() {
		for _, known := range []int{0, api.MaxDay} {
			a := good()
			a.known = known
			if _, e := q.ask(a); e == api.ErrDay {
				t.Error(q.name, known, e)
			}
		}
	}
}
