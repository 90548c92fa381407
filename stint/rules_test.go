package stint_test

import (
	"reflect"
	"slices"
	"testing"

	"pinfold/api"
	"pinfold/stint"
)

// arguments are those of any function that takes a common and tells of it.
type arguments struct {
	c                                     api.Common
	holding, owner, sort, pasture, source int
	h                                     api.Herd
	w                                     api.When
	later                                 int
}

// good has no error.
func good() arguments {
	return arguments{c: example(), holding: 1, owner: 5, sort: 1, pasture: 1, source: 70, w: on(110), later: 110}
}

// fault makes one argument wrong.
type fault func(a *arguments)

// faults have one error: each of them is a way in which it comes about.
type faults struct {
	want api.Errno
	ways []fault
}

var (
	badCommon  = faults{api.ErrCommon, commonFaults()}
	badHolding = faults{api.ErrArg, numberFaults(func(a *arguments) *int { return &a.holding }, -1, 0, 100)}
	badOwner   = faults{api.ErrArg, numberFaults(func(a *arguments) *int { return &a.owner }, -1, 0, 100)}
	badSort    = faults{api.ErrArg, numberFaults(func(a *arguments) *int { return &a.sort }, -1, 0, 10)}
	noPasture  = faults{api.ErrPasture, numberFaults(func(a *arguments) *int { return &a.pasture }, -1, 0, 3, 99, 100)}
	badHerd    = faults{api.ErrHerd, herdFaults()}
	badDay     = faults{api.ErrDay, numberFaults(func(a *arguments) *int { return &a.w.Day }, -1, api.MaxDay+1)}
	badKnown   = faults{api.ErrDay, numberFaults(func(a *arguments) *int { return &a.w.Known }, -1, api.MaxDay+1)}
	badLater   = faults{api.ErrDay, numberFaults(func(a *arguments) *int { return &a.later }, -1, api.MaxDay+1)}
	noHolding  = faults{api.ErrHolding, numberFaults(func(a *arguments) *int { return &a.holding }, 3, 99)}
	noForce    = faults{api.ErrForce, []fault{func(a *arguments) { a.c.Byelaws = nil }}}
	noSource   = faults{api.ErrNone, numberFaults(func(a *arguments) *int { return &a.source }, -1, 0, 69, api.MaxSource+1)}
)

func commonFaults() []fault {
	var l []fault
	for _, c := range badCommons() {
		l = append(l, func(a *arguments) { a.c = c })
	}
	return l
}

func numberFaults(of func(a *arguments) *int, bad ...int) []fault {
	var l []fault
	for _, n := range bad {
		l = append(l, func(a *arguments) { *of(a) = n })
	}
	return l
}

func herdFaults() []fault {
	var l []fault
	for _, h := range []api.Herd{{1}, {-1}, {1: -1}, {9: -1}, {1: api.MaxHead + 1}, {9: api.MaxHead + 1}, {5: 1 << 62}} {
		l = append(l, func(a *arguments) { a.h = h })
	}
	return l
}

// A question is a function, with the errors that it may have, in their order.
type question struct {
	name   string
	ask    func(a arguments) (any, api.Errno)
	errors []faults
}

// untyped makes a result one of any type.
func untyped[T any](x T, e api.Errno) (any, api.Errno) { return x, e }

func questions() []question {
	return []question{
		{"Standing", func(a arguments) (any, api.Errno) { return untyped(stint.Standing(a.c, a.w.Known)) },
			[]faults{badCommon, badKnown}},
		{"Void", func(a arguments) (any, api.Errno) { return untyped(stint.Void(a.c, a.w.Known)) },
			[]faults{badCommon, badKnown}},
		{"Open", func(a arguments) (any, api.Errno) { return untyped(stint.Open(a.c, a.pasture, a.w)) },
			[]faults{badCommon, noPasture, badDay, badKnown}},
		{"InForce", func(a arguments) (any, api.Errno) { return untyped(stint.InForce(a.c, a.pasture, a.w.Day)) },
			[]faults{badCommon, noPasture, badDay, noForce}},
		{"Holdings", func(a arguments) (any, api.Errno) { return untyped(stint.Holdings(a.c, a.w)) },
			[]faults{badCommon, badDay, badKnown}},
		{"Owner", func(a arguments) (any, api.Errno) { return untyped(stint.Owner(a.c, a.holding, a.w)) },
			[]faults{badCommon, badHolding, badDay, badKnown, noHolding}},
		{"Owned", func(a arguments) (any, api.Errno) { return untyped(stint.Owned(a.c, a.owner, a.w)) },
			[]faults{badCommon, badOwner, badDay, badKnown}},
		{"Right", func(a arguments) (any, api.Errno) { return untyped(stint.Right(a.c, a.holding, a.pasture, a.w)) },
			[]faults{badCommon, badHolding, noPasture, badDay, badKnown, noHolding}},
		{"Use", func(a arguments) (any, api.Errno) { return untyped(stint.Use(a.c, a.holding, a.pasture, a.w)) },
			[]faults{badCommon, badHolding, noPasture, badDay, badKnown, noHolding}},
		{"Total", func(a arguments) (any, api.Errno) { return untyped(stint.Total(a.c, a.pasture, a.w)) },
			[]faults{badCommon, noPasture, badDay, badKnown}},
		{"Takes", func(a arguments) (any, api.Errno) { return untyped(stint.Takes(a.c, a.pasture, a.h, a.w.Day)) },
			[]faults{badCommon, noPasture, badHerd, badDay, noForce}},
		{"Most", func(a arguments) (any, api.Errno) { return untyped(stint.Most(a.c, a.owner, a.pasture, a.sort, a.w)) },
			[]faults{badCommon, badOwner, badSort, noPasture, badDay, badKnown, noForce}},
		{"Over", func(a arguments) (any, api.Errno) { return untyped(stint.Over(a.c, a.owner, a.pasture, a.h, a.w)) },
			[]faults{badCommon, badOwner, noPasture, badHerd, badDay, badKnown, noForce}},
		{"Changed", func(a arguments) (any, api.Errno) { return untyped(stint.Changed(a.c, a.w.Day, a.w.Known, a.later)) },
			[]faults{badCommon, badDay, badKnown, badLater}},
		{"Rests", func(a arguments) (any, api.Errno) { return untyped(stint.Rests(a.c, a.owner, a.pasture, a.w)) },
			[]faults{badCommon, badOwner, noPasture, badDay, badKnown}},
		{"Moved", func(a arguments) (any, api.Errno) { return untyped(stint.Moved(a.c, a.source, a.sort, a.w)) },
			[]faults{badCommon, badSort, badDay, badKnown, noSource}},
	}
}

// P2.1: of several errors the one named first is returned, and zero values beside it (R1, R2).
func TestErrors(t *testing.T) {
	for _, q := range questions() {
		if _, e := q.ask(good()); e != api.OK {
			t.Error(q.name, e)
		}
		for i, first := range q.errors {
			for _, way := range first.ways {
				wantError(t, q, first.want, way)
				for _, second := range q.errors[i+1:] {
					for _, other := range second.ways {
						// The first error comes last: where both are of one argument it stays.
						wantError(t, q, first.want, other, way)
					}
				}
			}
		}
	}
}

func wantError(t *testing.T, q question, wanted api.Errno, ways ...fault) {
	t.Helper()
	a := good()
	for _, way := range ways {
		way(&a)
	}
	got, e := q.ask(a)
	if e != wanted || !isZero(got) {
		t.Errorf("%s: %v, %d; want %d", q.name, got, e, wanted)
	}
}

func isZero(x any) bool {
	v := reflect.ValueOf(x)
	return v.IsZero() || v.Kind() == reflect.Slice && v.Len() == 0
}

// P2.1: the limits of days, holdings, owners, sorts and herds themselves are no errors.
func TestArgumentsAtTheirLimits(t *testing.T) {
	for _, n := range []int{0, api.MaxDay} {
		a := arguments{c: common(hold(99, 99, 0)), holding: 99, owner: 99, sort: 9, pasture: 2, source: api.MaxSource,
			h: api.Herd{1: api.MaxHead, 9: api.MaxHead}, w: on(n), later: n}
		a.c.Byelaws = append(a.c.Byelaws, api.Byelaw{Source: api.MaxSource, Pasture: 2})
		for _, q := range questions() {
			if _, e := q.ask(a); e != api.OK {
				t.Error(q.name, n, e)
			}
		}
	}
}

// P2.1: no argument is changed, and no result shares memory with one (R4).
func TestMemory(t *testing.T) {
	c := example()
	wanted := cloneCommon(c)
	c.Deeds = slices.Grow(c.Deeds, 10)
	room := c.Deeds[:len(c.Deeds)+1]
	last := right(2, 1, 1, 1)
	last.At.Manor = 5
	for _, l := range [][]api.Deed{nil, {c.Deeds[3]}, {last}} {
		got, e := stint.Join(c, l)
		wantErrno(t, e, api.OK)
		spoil(got)
		for _, x := range l {
			got, e := stint.Add(c, x)
			wantErrno(t, e, api.OK)
			spoil(got)
		}
		if !equalCommons(c, wanted) || room[len(c.Deeds)] != (api.Deed{}) {
			t.Fatal(c)
		}
	}
	for _, q := range questions() {
		a := good()
		if _, e := q.ask(a); e != api.OK || !equalCommons(a.c, wanted) {
			t.Error(q.name, e)
		}
	}
}

// spoil overwrites all that a common has.
func spoil(c api.Common) {
	for i := range c.Pastures {
		c.Pastures[i].Id = 77
	}
	for i := range c.Byelaws {
		c.Byelaws[i].Source = 77
	}
	for i := range c.Deeds {
		c.Deeds[i].Kind = 77
	}
}

// P2.1: an empty list is as nil (R3), and a common may have nothing.
func TestNothing(t *testing.T) {
	wanted := map[string]api.Errno{"Standing": api.OK, "Void": api.OK, "Holdings": api.OK, "Owned": api.OK, "Changed": api.OK, "Owner": api.ErrHolding, "Moved": api.ErrNone}
	for _, c := range []api.Common{{}, {Pastures: []api.Pasture{}, Byelaws: []api.Byelaw{}, Deeds: []api.Deed{}}} {
		for _, q := range questions() {
			a := good()
			a.c = c
			got, e := q.ask(a)
			w, ok := wanted[q.name]
			if !ok {
				w = api.ErrPasture
			}
			if e != w || !isZero(got) {
				t.Error(q.name, got, e)
			}
		}
		got, e := stint.Join(c, []api.Deed{})
		wantCommon(t, "Join", got, e, api.Common{}, api.OK)
	}
}
