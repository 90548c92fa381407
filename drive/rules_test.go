package drive_test

import (
	"reflect"
	"slices"
	"testing"

	"pinfold/api"
	"pinfold/drive"
)

// arguments are those of any function that takes a drive, but With.
type arguments struct {
	d, e                  api.Drive
	beast, owner, sort, n int
	right                 int
	owners, given, beasts []int
	r                     api.Rates
}

// good has no error: the beasts are a proof that the owner 7 has the beast 4.
func good() arguments {
	return arguments{d: example(), e: example(), beast: 4, owner: 7, sort: 1, n: 1, right: 59, owners: []int{7},
		given: []int{5, 6, 7, 7}, beasts: []int{4}, r: api.Rates{1: 60, 3: 10}}
}

// fault makes one argument wrong.
type fault func(a *arguments)

// faults have one error: each of them is a way in which it comes about.
type faults struct {
	want api.Errno
	ways []fault
}

func numberFaults(of func(a *arguments) *int, bad ...int) []fault {
	var l []fault
	for _, n := range bad {
		l = append(l, func(a *arguments) { *of(a) = n })
	}
	return l
}

func listFaults(of func(a *arguments) *[]int, bad ...[]int) []fault {
	var l []fault
	for _, x := range bad {
		l = append(l, func(a *arguments) { *of(a) = x })
	}
	return l
}

func driveFaults(of func(a *arguments) *api.Drive, bad ...api.Drive) []fault {
	var l []fault
	for _, d := range bad {
		l = append(l, func(a *arguments) { *of(a) = d })
	}
	return l
}

func rateFaults() []fault {
	var l []fault
	for _, r := range badRates() {
		l = append(l, func(a *arguments) { a.r = r })
	}
	return l
}

// unsound are drives that have the beasts of the example, and are not sound.
func unsound() []api.Drive {
	none, few := example(), example()
	none.Stocks = nil
	few.Stocks[2].Most = 0
	return []api.Drive{none, few}
}

func first(a *arguments) *api.Drive  { return &a.d }
func second(a *arguments) *api.Drive { return &a.e }

var (
	badDrive   = faults{api.ErrDrive, driveFaults(first, badDrives()...)}
	badOther   = faults{api.ErrDrive, driveFaults(second, badDrives()...)}
	badBeast   = faults{api.ErrArg, numberFaults(func(a *arguments) *int { return &a.beast }, -1, 0, api.MaxBeast+1)}
	badOwner   = faults{api.ErrArg, numberFaults(func(a *arguments) *int { return &a.owner }, -1, 0, 100)}
	badSort    = faults{api.ErrArg, numberFaults(func(a *arguments) *int { return &a.sort }, -1, 0, 10)}
	wrongRates = faults{api.ErrRates, rateFaults()}
	badRight   = faults{api.ErrArg, numberFaults(func(a *arguments) *int { return &a.right }, -1, api.MaxRight+1)}
	noBeast    = faults{api.ErrNone, numberFaults(func(a *arguments) *int { return &a.beast }, 5, api.MaxBeast)}
	notSound   = faults{api.ErrFalse, driveFaults(first, unsound()...)}
	otherNot   = faults{api.ErrFalse, driveFaults(second, unsound()...)}
	noOwners   = faults{api.ErrArg, listFaults(func(a *arguments) *[]int { return &a.owners }, nil, []int{5, 6, 0})}
	badGiven   = faults{api.ErrGiven, listFaults(func(a *arguments) *[]int { return &a.given }, nil, []int{5, 6, 7}, []int{6, 6, 7, 7})}
	badCrowd   = faults{api.ErrCrowd, listFaults(func(a *arguments) *[]int { return &a.beasts }, []int{3}, []int{4, 4}, []int{0})}
	notShown   = faults{api.ErrShown, numberFaults(func(a *arguments) *int { return &a.n }, 2, 1<<62)}
)

// A question is a function, with the errors that it may have, in their order.
type question struct {
	name   string
	ask    func(a arguments) (any, api.Errno)
	errors []faults
}

// untyped makes a result one of any type.
func untyped[T any](x T, e api.Errno) (any, api.Errno) { return x, e }

// nothing is beside an error that is the only result.
func nothing(e api.Errno) (any, api.Errno) { return 0, e }

func questions() []question {
	return []question{
		{"Without", func(a arguments) (any, api.Errno) { return untyped(drive.Without(a.d, a.beast)) },
			[]faults{badDrive, badBeast, noBeast}},
		{"Narrow", func(a arguments) (any, api.Errno) { return untyped(drive.Narrow(a.d, a.beast, a.owners)) },
			[]faults{badDrive, badBeast, noBeast, noOwners}},
		{"Owners", func(a arguments) (any, api.Errno) { return untyped(drive.Owners(a.d)) }, []faults{badDrive}},
		{"Sound", func(a arguments) (any, api.Errno) { return untyped(drive.Sound(a.d)) }, []faults{badDrive}},
		{"Give", func(a arguments) (any, api.Errno) { return untyped(drive.Give(a.d)) }, []faults{badDrive, notSound}},
		{"CheckGiven", func(a arguments) (any, api.Errno) { return nothing(drive.CheckGiven(a.d, a.given)) },
			[]faults{badDrive, badGiven}},
		{"Count", func(a arguments) (any, api.Errno) { return untyped(drive.Count(a.d, a.owner, a.sort)) },
			[]faults{badDrive, badOwner, badSort, notSound}},
		{"Attain least", func(a arguments) (any, api.Errno) { return untyped(drive.Attain(a.d, a.owner, a.sort, false)) },
			[]faults{badDrive, badOwner, badSort, notSound}},
		{"Attain most", func(a arguments) (any, api.Errno) { return untyped(drive.Attain(a.d, a.owner, a.sort, true)) },
			[]faults{badDrive, badOwner, badSort, notSound}},
		{"Prove", func(a arguments) (any, api.Errno) { return untyped(drive.Prove(a.d, a.owner, a.sort)) },
			[]faults{badDrive, badOwner, badSort, notSound}},
		{"CheckProof", func(a arguments) (any, api.Errno) {
			return nothing(drive.CheckProof(a.d, a.owner, a.sort, a.n, a.beasts))
		}, []faults{badDrive, badOwner, badSort, badCrowd, notShown}},
		{"Whose", func(a arguments) (any, api.Errno) { return untyped(drive.Whose(a.d, a.beast, a.owner)) },
			[]faults{badDrive, badBeast, badOwner, noBeast, notSound}},
		{"Parts", func(a arguments) (any, api.Errno) { return untyped(drive.Parts(a.d, a.owner, a.r)) },
			[]faults{badDrive, badOwner, wrongRates, notSound}},
		{"Over", func(a arguments) (any, api.Errno) { return untyped(drive.Over(a.d, a.owner, a.r, a.right)) },
			[]faults{badDrive, badOwner, wrongRates, badRight, notSound}},
		{"Moved", func(a arguments) (any, api.Errno) { return untyped(drive.Moved(a.d, a.e)) },
			[]faults{badDrive, badOther, notSound, otherNot}},
	}
}

// P3.1: of several errors the one named first is returned, and zero values beside it (R1, R2).
func TestErrors(t *testing.T) {
	for _, q := range questions() {
		if _, e := q.ask(good()); e != api.OK {
			t.Error(q.name, e)
		}
		for i, first := range q.errors {
			for _, way := range first.ways {
				wantError(t, q, first.want, way)
				for _, second := range q.errors[i+1:] {
					for _, other := range second.ways {
						// The first error comes last: where both are of one argument it stays.
						wantError(t, q, first.want, other, way)
					}
				}
			}
		}
	}
}

func wantError(t *testing.T, q question, wanted api.Errno, ways ...fault) {
	t.Helper()
	a := good()
	for _, way := range ways {
		way(&a)
	}
	got, e := q.ask(a)
	if e != wanted || !isZero(got) {
		t.Errorf("%s: %v, %d; want %d", q.name, got, e, wanted)
	}
}

func isZero(x any) bool {
	v := reflect.ValueOf(x)
	return v.IsZero() || v.Kind() == reflect.Slice && v.Len() == 0
}

// P3.1: what does not ask for a sound drive answers for one that is not.
func TestUnsound(t *testing.T) {
	for _, name := range []string{"Without", "Narrow", "Owners", "Sound", "CheckProof"} {
		for _, q := range questions() {
			a := good()
			notSound.ways[0](&a)
			if _, e := q.ask(a); q.name == name && e != api.OK {
				t.Error(name, e)
			}
		}
	}
}

// P3.1: Crowd and CheckCrowd of drives that are not valid, and of ones that are sound.
func TestErrorsOfCrowd(t *testing.T) {
	for _, d := range badDrives() {
		l, e := drive.Crowd(d)
		want(t, "Crowd", l, e, nil, api.ErrDrive)
		wantErrno(t, "CheckCrowd", drive.CheckCrowd(d, []int{0}), api.ErrDrive)
	}
	for _, d := range []api.Drive{{}, example(), fullDrive()} {
		l, e := drive.Crowd(d)
		want(t, "Crowd", l, e, nil, api.ErrNone)
		wantErrno(t, "CheckCrowd", drive.CheckCrowd(d, []int{1}), api.ErrCrowd)
	}
}

// P3.1: the limits of owners, sorts, beasts, rates and rights themselves are no errors.
func TestArgumentsAtTheirLimits(t *testing.T) {
	for _, right := range []int{0, api.MaxRight} {
		d := fullDrive()
		a := arguments{d: d, e: d, beast: api.MaxBeast, owner: 99, sort: 9, right: right, owners: []int{99},
			given: slices.Repeat([]int{1}, api.MaxCounted), r: api.Rates{1: api.MaxRate, 9: api.MaxRate}}
		for _, q := range questions() {
			if _, e := q.ask(a); e != api.OK {
				t.Error(q.name, e)
			}
		}
	}
}

// P3.1: no argument is changed, and no result shares memory with one, or with another list of it (R4).
func TestMemory(t *testing.T) {
	for _, q := range questions() {
		a := good()
		a.d.Beasts = slices.Grow(a.d.Beasts, 10)
		got, e := q.ask(a)
		wantErrno(t, q.name, e, api.OK)
		spoil(got)
		if !reflect.DeepEqual(a, good()) {
			t.Error(q.name, a)
		}
	}
	d := api.Drive{Beasts: slices.Grow(example().Beasts, 10), Stocks: slices.Grow(example().Stocks, 10)}
	x := counted(9, 2, 1, 2)
	got, e := drive.With(d, x)
	wantErrno(t, "With", e, api.OK)
	spoil(got)
	if !reflect.DeepEqual(d, example()) || !slices.Equal(x.Owners, []int{1, 2}) || d.Beasts[:5][4].Beast != 0 {
		t.Error("With", d, x)
	}
}

// spoil overwrites all that a result has, and what may lie behind it.
func spoil(x any) {
	switch x := x.(type) {
	case []int:
		for i := range x[:cap(x)] {
			x[:cap(x)][i] = 77
		}
	case api.Drive:
		for i := range x.Beasts {
			spoil(x.Beasts[i].Owners)
			x.Beasts[i] = api.Counted{Sort: 77}
		}
		for i := range x.Stocks {
			x.Stocks[i].Most = 77
		}
	}
}

// P3.1: an empty list is as nil (R3), and a drive may have nothing.
func TestNothing(t *testing.T) {
	wanted := map[string]api.Errno{"Without": api.ErrNone, "Narrow": api.ErrNone, "Whose": api.ErrNone, "CheckProof": api.ErrShown}
	for _, d := range []api.Drive{{}, {Beasts: []api.Counted{}, Stocks: []api.Stock{}}, {Stocks: example().Stocks}} {
		for _, q := range questions() {
			a := good()
			a.d, a.e, a.given, a.beasts = d, d, []int{}, []int{}
			got, e := q.ask(a)
			if e != wanted[q.name] || q.name != "Sound" && !isZero(got) {
				t.Error(q.name, got, e)
			}
		}
		sound, e := drive.Sound(d)
		want(t, "Sound", sound, e, true, api.OK)
	}
}
