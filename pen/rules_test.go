package pen_test

import (
	"math"
	"reflect"
	"slices"
	"testing"

	"pinfold/api"
	"pinfold/pen"
)

// arguments are those of all functions.
type arguments struct {
	y                          api.Yard
	l, p                       []int
	stays                      []api.Stay
	r                          api.Refusal
	a, b, i, pen, n, sort, day int
	fodder                     int
}

// good has no error, but that Refuse finds a placement.
func good() arguments {
	return arguments{y: example(), l: []int{1, 1, 2}, p: []int{0, 0, 1}, stays: exampleStays(), r: api.Refusal{Kind: api.TooTight, Beasts: []int{0}},
		a: 1, b: 2, i: 2, pen: 2, n: 3, sort: 3, day: 5, fodder: 36}
}

// tight has beasts that have no placement.
func tight() arguments {
	a := good()
	a.l, a.r = []int{1, 1, 1, 1}, api.Refusal{Kind: api.TooTight, Beasts: []int{0, 1, 2, 3}}
	return a
}

// fault makes one argument wrong.
type fault func(a *arguments)

// faults have one error: each of them is a way in which it comes about.
type faults struct {
	want api.Errno
	ways []fault
}

// faultsOf puts bad values in the place of an argument.
func faultsOf[T any](want api.Errno, of func(a *arguments) *T, bad ...T) faults {
	f := faults{want: want}
	for _, x := range bad {
		f.ways = append(f.ways, func(a *arguments) { *of(a) = x })
	}
	return f
}

func badYard() faults {
	return faultsOf(api.ErrYard, func(a *arguments) *api.Yard { return &a.y }, badYards()...)
}

func badSorts() faults {
	return faultsOf(api.ErrSorts, func(a *arguments) *[]int { return &a.l }, badBeasts()...)
}

func badPlace() faults {
	return faultsOf(api.ErrPlaced, func(a *arguments) *[]int { return &a.p }, badPlaces()...)
}

func wrongStays() faults {
	return faultsOf(api.ErrStays, func(a *arguments) *[]api.Stay { return &a.stays }, badStays()...)
}

func badBeast() faults {
	return faultsOf(api.ErrArg, func(a *arguments) *int { return &a.i }, -1, 3, math.MaxInt, math.MinInt)
}

func badPen() faults {
	return faultsOf(api.ErrPen, func(a *arguments) *int { return &a.pen }, -1, 3, math.MaxInt, math.MinInt)
}

func badDay() faults {
	return faultsOf(api.ErrDay, func(a *arguments) *int { return &a.day }, -1, api.MaxDay+1, math.MaxInt, math.MinInt)
}

func badFodder() faults {
	return faultsOf(api.ErrArg, func(a *arguments) *int { return &a.fodder }, -1, 1e12+1, math.MaxInt, math.MinInt)
}

func badSort() faults {
	return faultsOf(api.ErrSorts, func(a *arguments) *int { return &a.sort }, 0, 5, -1, math.MaxInt)
}

func badPair() faults {
	f := faultsOf(api.ErrSorts, func(a *arguments) *int { return &a.a }, 0, 5, -1, 10, math.MinInt)
	f.ways = append(f.ways, faultsOf(api.ErrSorts, func(a *arguments) *int { return &a.b }, 0, 5, -1, 10, math.MaxInt).ways...)
	return f
}

func noPlacement() faults {
	return faultsOf(api.ErrTight, func(a *arguments) *[]int { return &a.l }, []int{1, 1, 1, 1}, []int{4, 4, 4, 4})
}

func noRoomToMove() faults {
	return faultsOf(api.ErrTight, func(a *arguments) *int { return &a.pen }, 0)
}

func noRoomToAdd() faults {
	return faultsOf(api.ErrTight, func(a *arguments) *int { return &a.sort }, 1)
}

func noFodder() faults {
	return faults{api.ErrNone, []fault{func(a *arguments) { a.fodder, a.stays = 7, []api.Stay{{Sort: 1, In: 0, Out: -1}} }}}
}

func noNth() faults {
	return faultsOf(api.ErrNone, func(a *arguments) *int { return &a.n }, -1, 4, 1000, math.MaxInt, math.MinInt)
}

func noReason() faults {
	return faultsOf(api.ErrRefusal, func(a *arguments) *api.Refusal { return &a.r }, badRefusals()...)
}

// A question is a function, with the errors that it may have, in their order.
type question struct {
	name   string
	good   func() arguments
	ask    func(a arguments) (any, api.Errno)
	errors []faults
}

// untyped makes a result one of any type.
func untyped[T any](x T, e api.Errno) (any, api.Errno) { return x, e }

// nothing is beside an error that is the only result.
func nothing(e api.Errno) (any, api.Errno) { return 0, e }

// pair makes one result of two.
func pair(a, b []int, e api.Errno) (any, api.Errno) { return [2][]int{a, b}, e }

// asksOfBeasts are the questions of beasts, with or without a placement.
func asksOfBeasts() []question {
	y, l, p := badYard(), badSorts(), badPlace()
	return []question{
		{"CheckYard", good, func(a arguments) (any, api.Errno) { return nothing(pen.CheckYard(a.y)) }, []faults{y}},
		{"CheckSorts", good, func(a arguments) (any, api.Errno) { return nothing(pen.CheckSorts(a.y, a.l)) }, []faults{y, l}},
		{"Room", good, func(a arguments) (any, api.Errno) { return untyped(pen.Room(a.y, a.l)) }, []faults{y, l}},
		{"Apart", good, func(a arguments) (any, api.Errno) { return untyped(pen.Apart(a.y, a.a, a.b)) }, []faults{y, badPair()}},
		{"CheckPlace", good, func(a arguments) (any, api.Errno) { return nothing(pen.CheckPlace(a.y, a.l, a.p)) }, []faults{y, l, p}},
		{"Place", good, func(a arguments) (any, api.Errno) { return untyped(pen.Place(a.y, a.l)) }, []faults{y, l, noPlacement()}},
		{"Count", good, func(a arguments) (any, api.Errno) { return untyped(pen.Count(a.y, a.l)) }, []faults{y, l}},
		{"Nth", good, func(a arguments) (any, api.Errno) { return untyped(pen.Nth(a.y, a.l, a.n)) }, []faults{y, l, noNth()}},
		{"Fewest", good, func(a arguments) (any, api.Errno) { return untyped(pen.Fewest(a.y, a.l)) }, []faults{y, l, noPlacement()}},
		{"Free", good, func(a arguments) (any, api.Errno) { return untyped(pen.Free(a.y, a.l, a.p)) }, []faults{y, l, p}},
		{"Inside", good, func(a arguments) (any, api.Errno) { return untyped(pen.Inside(a.y, a.l, a.p, a.pen)) }, []faults{y, l, p, badPen()}},
		{"Add", good, func(a arguments) (any, api.Errno) { return untyped(pen.Add(a.y, a.l, a.p, a.sort)) },
			[]faults{y, l, p, badSort(), noRoomToAdd()}},
		{"Move", good, func(a arguments) (any, api.Errno) { return untyped(pen.Move(a.y, a.l, a.p, a.i, a.pen)) },
			[]faults{y, l, p, badBeast(), badPen(), noRoomToMove()}},
		{"Take", good, func(a arguments) (any, api.Errno) { return pair(pen.Take(a.y, a.l, a.p, a.i)) }, []faults{y, l, p, badBeast()}},
		{"Refuse", tight, func(a arguments) (any, api.Errno) { return untyped(pen.Refuse(a.y, a.l)) }, []faults{y, l}},
		{"CheckRefusal", tight, func(a arguments) (any, api.Errno) { return nothing(pen.CheckRefusal(a.y, a.l, a.r)) }, []faults{y, l, noReason()}},
	}
}

// asksOfStays are the questions of stays.
func asksOfStays() []question {
	y, l := badYard(), wrongStays()
	return []question{
		{"CheckStays", good, func(a arguments) (any, api.Errno) { return nothing(pen.CheckStays(a.y, a.stays)) }, []faults{y, l}},
		{"There", good, func(a arguments) (any, api.Errno) { return untyped(pen.There(a.y, a.stays, a.day)) }, []faults{y, l, badDay()}},
		{"Full", fullOne, func(a arguments) (any, api.Errno) { return untyped(pen.Full(a.y, a.stays)) }, []faults{y, l}},
		{"Eaten", good, func(a arguments) (any, api.Errno) { return untyped(pen.Eaten(a.y, a.stays, a.day)) }, []faults{y, l, badDay()}},
		{"Lasts", good, func(a arguments) (any, api.Errno) { return untyped(pen.Lasts(a.y, a.stays, a.fodder)) }, []faults{y, l, badFodder(), noFodder()}},
	}
}

// fullOne has stays that make the yard full.
func fullOne() arguments {
	a := good()
	a.stays = slices.Repeat(a.stays, 3)
	return a
}

func questions() []question { return slices.Concat(asksOfBeasts(), asksOfStays()) }

// P5.1: of several errors the one named first is returned, and zero values beside it (R1, R2).
func TestErrors(t *testing.T) {
	for _, q := range questions() {
		if _, e := q.ask(q.good()); e != api.OK {
			t.Error(q.name, e)
		}
		for i, first := range q.errors {
			for _, way := range first.ways {
				wantError(t, q, first.want, way)
				for _, second := range q.errors[i+1:] {
					for _, other := range second.ways {
						// The first error comes last: where both are of one argument it stays.
						wantError(t, q, first.want, other, way)
					}
				}
			}
		}
	}
}

func wantError(t *testing.T, q question, wanted api.Errno, ways ...fault) {
	t.Helper()
	a := q.good()
	for _, way := range ways {
		way(&a)
	}
	got, e := q.ask(a)
	if e != wanted || !isZero(got) {
		t.Errorf("%s: %v, %d; want %d", q.name, got, e, wanted)
	}
}

// isZero reports whether a result is a zero value: an empty list is one, too.
func isZero(x any) bool {
	switch x := x.(type) {
	case []int:
		return len(x) == 0
	case [2][]int:
		return len(x[0])+len(x[1]) == 0
	case api.Refusal:
		return x.Kind == 0 && len(x.Beasts) == 0
	}
	return reflect.ValueOf(x).IsZero()
}

// P5.1: the errors of Add that are its own: a sort that the yard has not is ahead of too many beasts, and these of too little room.
func TestErrorsOfAdd(t *testing.T) {
	y := free(8)
	l, p := slices.Repeat([]int{1}, api.MaxInside), make([]int, api.MaxInside)
	for sort, wanted := range map[int]api.Errno{1: api.ErrLong, 2: api.ErrSorts, 0: api.ErrSorts} {
		n, e := pen.Add(y, l, p, sort)
		want(t, "Add", n, e, 0, wanted)
	}
	n, e := pen.Add(free(7), l[1:], p[1:], 1)
	want(t, "Add", n, e, 0, api.ErrTight)
}

// P5.1: Refuse and Full of what fits, and of what is not valid.
func TestNothingToRefuse(t *testing.T) {
	a := good()
	r, e := pen.Refuse(a.y, a.l)
	want(t, "Refuse", r, e, api.Refusal{}, api.ErrNone)
	n, e := pen.Full(a.y, a.stays)
	want(t, "Full", n, e, 0, api.ErrNone)
}

// P5.1: no argument is changed, and no result shares memory with one, or with another list of it (R4).
func TestMemory(t *testing.T) {
	for _, q := range questions() {
		a, whole := q.good(), q.good()
		for _, l := range []*[]int{&a.y.Pens, &a.l, &a.p, &a.r.Beasts} {
			*l = slices.Grow(*l, 10)
		}
		a.y.Kinds, a.stays = slices.Grow(a.y.Kinds, 10), slices.Grow(a.stays, 10)
		got, e := q.ask(a)
		wantErrno(t, q.name, e, api.OK)
		again, e := q.ask(a)
		wantErrno(t, q.name, e, api.OK)
		if !reflect.DeepEqual(got, again) {
			t.Error(q.name, got, again)
		}
		spoil(got)
		behind := a.l[:len(a.l)+1][len(a.l)] + a.p[:len(a.p)+1][len(a.p)] + a.y.Pens[:len(a.y.Pens)+1][len(a.y.Pens)]
		if !reflect.DeepEqual(a, whole) || behind != 0 {
			t.Error(q.name, a)
		}
	}
}

// spoil overwrites all that a result has, and what may lie behind it.
func spoil(x any) {
	switch x := x.(type) {
	case []int:
		for i := range x[:cap(x)] {
			x[:cap(x)][i] = 77
		}
	case [2][]int:
		spoil(x[0])
		spoil(x[1])
	case api.Refusal:
		spoil(x.Beasts)
	}
}

// P5.1: what Take returns are two lists, also of one list that is both beasts and pens.
func TestTakeOfOneList(t *testing.T) {
	y := api.Yard{Pens: []int{9, 9}, Kinds: []api.Kind{{Sort: 1, Room: 1}}}
	both := []int{1, 1, 1}
	l, p, e := pen.Take(y, both, both, 0)
	want(t, "Take", [2][]int{l, p}, e, [2][]int{{1, 1}, {1, 1}}, api.OK)
	spoil(l)
	if !slices.Equal(p, []int{1, 1}) || !slices.Equal(both, []int{1, 1, 1}) {
		t.Error(p, both)
	}
}

// P5.1: nil and empty lists are the same (R3).
func TestNilAndEmpty(t *testing.T) {
	for _, q := range questions() {
		a, b := q.good(), q.good()
		a.y.Kinds, a.l, a.p, a.stays, a.r.Beasts, a.y.Pens = nil, nil, nil, nil, nil, nil
		b.y.Kinds, b.l, b.p, b.stays, b.r.Beasts, b.y.Pens = []api.Kind{}, []int{}, []int{}, []api.Stay{}, []int{}, []int{}
		got, e := q.ask(a)
		again, again0 := q.ask(b)
		if one(got, e) != one(again, again0) {
			t.Error(q.name, got, e, again, again0)
		}
	}
}

// P5.1: the limits of indices, pens and days themselves are no errors.
func TestArgumentsAtTheirLimits(t *testing.T) {
	l, p := slices.Repeat([]int{1}, api.MaxInside), slices.Repeat([]int{4}, api.MaxInside)
	y := free(slices.Repeat([]int{api.MaxRoom}, api.MaxPens)...)
	for _, i := range []int{0, api.MaxInside - 1} {
		for _, to := range []int{0, api.MaxPens - 1} {
			wanted := slices.Clone(p)
			wanted[i] = to
			got, e := pen.Move(y, l, p, i, to)
			want(t, "Move", got, e, wanted, api.OK)
		}
		_, _, e := pen.Take(y, l, p, i)
		wantErrno(t, "Take", e, api.OK)
	}
	got, e := pen.Inside(y, l, p, 4)
	want(t, "Inside", got, e, []int{0, 1, 2, 3, 4, 5, 6, 7}, api.OK)
	for _, day := range []int{0, api.MaxDay} {
		_, e := pen.There(y, nil, day)
		wantErrno(t, "There", e, api.OK)
		_, e = pen.Eaten(y, nil, day)
		wantErrno(t, "Eaten", e, api.OK)
	}
}
