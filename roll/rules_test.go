package roll_test

import (
	"math"
	"reflect"
	"slices"
	"testing"

	"pinfold/api"
	"pinfold/roll"
)

// arguments are those of all functions.
type arguments struct {
	r         api.Record
	sum       int
	line      string
	text      string
	l         []api.Record // written one after the other
	b, other  api.Book
	item      api.Item
	known     int
	rolls     api.Rolls
	picks     []int
	me, to    int
	m         api.Office
	x         api.Letter
	wasCopied bool
}

// good has no error.
func good() arguments {
	l := append(plains(slices.Repeat([]int{3}, 10)...), plains(0, 0, 1)...)
	m := officeOf(2, l[:9], l[9:])
	m.Known[4] = [6]int{1, 0, 0, 60}
	line, _ := retoldLine(5, example())
	return arguments{
		r: plain(3, 10), sum: 5, line: line, text: textOf(l) + "?", l: l, b: bookOf(l), other: bookOf(plains(0, 0, 0, 5)), item: at(3, 4), known: 7,
		rolls: m.Rolls, picks: []int{100, 0, 3, 4, 0, 0, 2}, me: 3, to: 4, m: m,
		x: api.Letter{From: 4, To: 2, Asks: true, Have: [6]int{0, 1, 5}, Records: []api.Record{plain(3, 10), plain(5, 9), plain(0, 1), plain(0, 2), plain(1, 1)}},
	}
}

// fault makes one argument wrong.
type fault func(a *arguments)

// faults have one error: each of them is a way in which it comes about.
type faults struct {
	want api.Errno
	ways []fault
}

// faultsOf puts bad values in the place of an argument.
func faultsOf[T any](want api.Errno, of func(a *arguments) *T, bad ...T) faults {
	f := faults{want: want}
	for _, x := range bad {
		f.ways = append(f.ways, func(a *arguments) { *of(a) = x })
	}
	return f
}

func recordOf(a *arguments) *api.Record { return &a.r }

func badRecord() faults { return faultsOf(api.ErrRecord, recordOf, badRecords()...) }

func badSum() faults {
	return faultsOf(api.ErrArg, func(a *arguments) *int { return &a.sum }, outside(0, api.SumOf-1)...)
}

func badBook() faults {
	return faultsOf(api.ErrBook, func(a *arguments) *api.Book { return &a.b }, badBooks()...)
}

func badOther() faults {
	return faultsOf(api.ErrBook, func(a *arguments) *api.Book { return &a.other }, badBooks()...)
}

// differs has another record of an item that all of the good arguments have, and those that are full.
func differs() faults { return faultsOf(api.ErrDiffer, recordOf, others(plain(3, 0))...) }

func gap() faults {
	return faultsOf(api.ErrGap, recordOf, plain(3, 11), plain(3, 9999), plain(0, 11), plain(5, 11))
}

func badOfficeOf() faults {
	return faultsOf(api.ErrOffice, func(a *arguments) *api.Office { return &a.m }, badOffices()...)
}

// fullOnes puts what is full in the place of a book, of rolls and their records, and of an office.
func fullOnes() faults {
	full := fullOffice()
	return faults{api.ErrLong, []fault{func(a *arguments) { a.b, a.l, a.rolls, a.m = fullBook(), full.Written, full.Rolls, full }}}
}

// rollsWithout has rolls and records of which one is not as the other says.
func rollsWithout() faults {
	f := faults{want: api.ErrRolls}
	for _, bad := range badRolls(good().rolls, good().l) {
		f.ways = append(f.ways, func(a *arguments) { a.rolls, a.l = bad.A, bad.B })
	}
	return f
}

// letterThatDiffers brings another record of an item.
func letterThatDiffers() faults {
	return faultsOf(api.ErrDiffer, func(a *arguments) *[]api.Record { return &a.x.Records }, []api.Record{others(plain(3, 0))[0]}, []api.Record{plain(3, 2), others(plain(0, 1))[0], plain(1, 1)})
}

// booksThatDiffer have another record of an item.
func booksThatDiffer() faults {
	b := bookOf(append(plains(0, 0, 0, 5), others(plain(3, 0))[0]))
	return faultsOf(api.ErrDiffer, func(a *arguments) *api.Book { return &a.other }, b)
}

func longBook() faults {
	return faultsOf(api.ErrLong, func(a *arguments) *api.Book { return &a.b }, bookOf(plains(slices.Repeat([]int{3}, 57)...)))
}

// A question is a function, with the errors that it may have, in their order.
type question struct {
	name   string
	ask    func(a arguments) (any, api.Errno)
	errors []faults
}

// untyped makes a result one of any type.
func untyped[T any](x T, e api.Errno) (any, api.Errno) { return x, e }

// results are several, of any types.
type results []any

func twoOf[A, B any](a A, b B, e api.Errno) (any, api.Errno) { return results{a, b}, e }

// nothing is beside an error that is the only result.
func nothing(e api.Errno) (any, api.Errno) { return 0, e }

// ofRecords are the questions of records, lines and books.
func ofRecords() []question {
	book, record := badBook(), badRecord()
	line := faultsOf(api.ErrLine, func(a *arguments) *string { return &a.line }, "", "a\n", withSum(5, "2 0 5 10 12 0 0 ?"), withSum(4, "2 0 5 10 12 0 0 a"), withSum(5, "6 0 5 10 12 0 0 a"))
	list := faultsOf(api.ErrBook, func(a *arguments) *[]api.Record { return &a.l }, badLists()...)
	none := faultsOf(api.ErrNone, func(a *arguments) *api.Item { return &a.item }, at(3, 10), at(5, 0), at(6, 0), at(-1, 0), at(0, -1), at(3, math.MaxInt))
	known := faultsOf(api.ErrDay, func(a *arguments) *int { return &a.known }, outside(0, api.MaxDay)...)
	return []question{
		{"CheckRecord", func(a arguments) (any, api.Errno) { return nothing(roll.CheckRecord(a.r)) }, []faults{record}},
		{"Line", func(a arguments) (any, api.Errno) { return twoOf(roll.Line(a.sum, a.r)) }, []faults{badSum(), record}},
		{"Read", func(a arguments) (any, api.Errno) { return twoOf(roll.Read(a.sum, a.line)) }, []faults{badSum(), line}},
		{"Scan", func(a arguments) (any, api.Errno) { l, text := roll.Scan(a.text); return results{l, text}, api.OK }, nil},
		{"Check", func(a arguments) (any, api.Errno) { return nothing(roll.Check(a.b)) }, []faults{book}},
		{"Sorted", func(a arguments) (any, api.Errno) { return untyped(roll.Sorted(a.l)) }, []faults{list}},
		{"Add", func(a arguments) (any, api.Errno) { return untyped(roll.Add(a.b, a.r)) }, []faults{book, record, differs(), gap(), fullOnes()}},
		{"Add again", func(a arguments) (any, api.Errno) { return untyped(roll.Add(a.b, plain(3, 0))) }, []faults{book}},
		{"Join", func(a arguments) (any, api.Errno) { return untyped(roll.Join(a.b, a.other)) }, []faults{book, badOther(), booksThatDiffer(), longBook()}},
		{"Join with itself", func(a arguments) (any, api.Errno) { return untyped(roll.Join(a.b, a.b)) }, []faults{book}},
		{"Have", func(a arguments) (any, api.Errno) { return untyped(roll.Have(a.b)) }, []faults{book}},
		{"Stands", func(a arguments) (any, api.Errno) { return untyped(roll.Stands(a.b, a.item)) }, []faults{book, none}},
		{"Standing", func(a arguments) (any, api.Errno) { return untyped(roll.Standing(a.b, a.known)) }, []faults{book, known}},
	}
}

// ofRolls are the questions of rolls and offices.
func ofRolls() []question {
	office, without := badOfficeOf(), rollsWithout()
	me := faultsOf(api.ErrArg, func(a *arguments) *int { return &a.me }, outside(0, 5)...)
	to := faultsOf(api.ErrArg, func(a *arguments) *int { return &a.to }, append(outside(0, 5), 2)...)
	letter := faultsOf(api.ErrLetter, func(a *arguments) *api.Letter { return &a.x }, badLetters()...)
	noted := faultsOf(api.ErrRecord, recordOf, spoilt(plain(0, 0), kindOf, 41, -1)...)
	return []question{
		{"CheckRolls", func(a arguments) (any, api.Errno) { return nothing(roll.CheckRolls(a.rolls, a.l)) }, []faults{without}},
		{"Write", func(a arguments) (any, api.Errno) { return twoOf(roll.Write(a.rolls, a.l, a.r)) }, []faults{without, badRecord(), differs(), gap(), fullOnes()}},
		{"Write again", func(a arguments) (any, api.Errno) { return twoOf(roll.Write(a.rolls, a.l, plain(3, 0))) }, []faults{without}},
		{"Seal", func(a arguments) (any, api.Errno) { return roll.Seal(a.rolls), api.OK }, nil},
		{"Tear", func(a arguments) (any, api.Errno) { return roll.Tear(a.rolls, a.picks), api.OK }, nil},
		{"Burn", func(a arguments) (any, api.Errno) { return roll.Burn(a.rolls, a.wasCopied), api.OK }, nil},
		{"Open", func(a arguments) (any, api.Errno) { r, l := roll.Open(a.rolls); return results{r, l}, api.OK }, nil},
		{"NewOffice", func(a arguments) (any, api.Errno) { return untyped(roll.NewOffice(a.me)) }, []faults{me}},
		{"Note", func(a arguments) (any, api.Errno) { return twoOf(roll.Note(a.m, a.r)) }, []faults{office, noted, fullOnes()}},
		{"Ask", func(a arguments) (any, api.Errno) { return twoOf(roll.Ask(a.m, a.to)) }, []faults{office, to}},
		{"Receive", func(a arguments) (any, api.Errno) { return twoOf(roll.Receive(a.m, a.x)) }, []faults{office, letter, letterThatDiffers(), fullOnes()}},
		{"Restart", func(a arguments) (any, api.Errno) { return untyped(roll.Restart(a.m, a.picks)) }, []faults{office}},
	}
}

func questions() []question { return append(ofRecords(), ofRolls()...) }

// P8.1: of several errors the one named first is returned, and zero values beside it (R1, R2).
func TestErrors(t *testing.T) {
	for _, q := range questions() {
		if _, e := q.ask(good()); e != api.OK {
			t.Error(q.name, e)
		}
		for i, first := range q.errors {
			for _, way := range first.ways {
				wantError(t, q, first.want, way)
				for _, second := range q.errors[i+1:] {
					for _, other := range second.ways {
						// The first error comes last: where both are of one argument it stays.
						wantError(t, q, first.want, other, way)
					}
				}
			}
		}
	}
}

func wantError(t *testing.T, q question, wanted api.Errno, ways ...fault) {
	t.Helper()
	a := good()
	for _, way := range ways {
		way(&a)
	}
	got, e := q.ask(a)
	if e != wanted || !isZero(got) {
		t.Errorf("%s: %.300v, %d; want %d", q.name, got, e, wanted)
	}
}

// isZero reports whether a result is a zero value: an empty list is one, too.
func isZero(x any) bool {
	switch x := x.(type) {
	case results:
		return !slices.ContainsFunc(x, func(x any) bool { return !isZero(x) })
	case api.Book:
		return len(x.Records) == 0
	case []api.Record:
		return len(x) == 0
	case []api.Letter:
		return len(x) == 0
	}
	return reflect.ValueOf(x).IsZero()
}

// roomy has room behind each of its lists.
func roomy() arguments {
	a := good()
	for _, l := range []*[]api.Record{&a.l, &a.b.Records, &a.other.Records, &a.m.Written, &a.x.Records} {
		*l = slices.Grow(*l, 20)
	}
	a.picks = slices.Grow(a.picks, 20)
	return a
}

// behind are the lists, with what lies behind them.
func behind(a arguments) any {
	l := []any{a.picks[:cap(a.picks)]}
	for _, records := range [][]api.Record{a.l, a.b.Records, a.other.Records, a.m.Written, a.x.Records} {
		l = append(l, records[:cap(records)])
	}
	return l
}

// P8.1: no argument is changed, and no result shares memory with one, or with another list of it (R4).
func TestMemory(t *testing.T) {
	for _, q := range questions() {
		a, whole := roomy(), roomy()
		got, e := q.ask(a)
		wantErrno(t, q.name, e, api.OK)
		again, e := q.ask(a)
		wantErrno(t, q.name, e, api.OK)
		if !reflect.DeepEqual(got, again) {
			t.Error(q.name, got, again)
		}
		spoilAll(t, q.name, listsOf(got))
		if !reflect.DeepEqual(a, whole) || !reflect.DeepEqual(behind(a), behind(whole)) {
			t.Error(q.name, a)
		}
		if once, e := q.ask(a); e != api.OK || !reflect.DeepEqual(once, again) {
			t.Error(q.name, once, again)
		}
	}
}

// listsOf are all lists of records that a result has.
func listsOf(x any) [][]api.Record {
	switch x := x.(type) {
	case results:
		var l [][]api.Record
		for _, one := range x {
			l = append(l, listsOf(one)...)
		}
		return l
	case api.Book:
		return [][]api.Record{x.Records}
	case []api.Record:
		return [][]api.Record{x}
	case api.Office:
		return [][]api.Record{x.Written}
	case api.Letter:
		return [][]api.Record{x.Records}
	case []api.Letter:
		var l [][]api.Record
		for _, letter := range x {
			l = append(l, letter.Records)
		}
		return l
	}
	return nil
}

// spoilAll overwrites lists, and what may lie behind them: each one with a number of its own, which no other one must get.
func spoilAll(t *testing.T, name string, lists [][]api.Record) {
	for i, l := range lists {
		for k := range l[:cap(l)] {
			l[:cap(l)][k] = api.Record{Kind: 77 + i}
		}
	}
	for i, l := range lists {
		if slices.ContainsFunc(l, func(r api.Record) bool { return r.Kind != 77+i }) {
			t.Error(name, ": two lists share memory: ", lists)
		}
	}
}

// P8.1: nil and empty lists are the same (R3).
func TestNilAndEmpty(t *testing.T) {
	for _, q := range questions() {
		a, b := good(), good()
		a.l, a.b, a.other, a.rolls, a.picks, a.m, a.x.Records = nil, api.Book{}, api.Book{}, api.Rolls{}, nil, api.Office{Me: 2}, nil
		b.l, b.b, b.other, b.rolls, b.picks, b.m, b.x.Records = []api.Record{}, api.Book{Records: []api.Record{}}, api.Book{Records: []api.Record{}}, api.Rolls{}, []int{},
			api.Office{Me: 2, Written: []api.Record{}}, []api.Record{}
		got, e := q.ask(a)
		again, again0 := q.ask(b)
		if one(got, e) != one(again, again0) {
			t.Error(q.name, got, e, again, again0)
		}
	}
}

// P8.1: the limits of days, sums and manors themselves are no errors.
func TestLimits(t *testing.T) {
	for _, q := range questions() {
		for _, known := range []int{0, api.MaxDay} {
			for _, sum := range []int{0, api.SumOf - 1} {
				a := good()
				a.known, a.sum = known, sum
				a.line, _ = retoldLine(sum, example())
				for _, manor := range []int{0, 5} {
					a.me, a.to = manor, manor
					if _, e := q.ask(a); e != api.OK {
						t.Error(q.name, known, sum, manor, e)
					}
				}
			}
		}
	}
}
