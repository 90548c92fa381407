package roll_test

import (
	"fmt"
	"math"
	"math/rand/v2"
	"slices"
	"testing"

	"pinfold/api"
	"pinfold/roll"
)

// P8.1, P8.2: the book of records is by their items, in whatever order manors took turns.
func TestSorted(t *testing.T) {
	each(400, func(x *rand.Rand, l []api.Record) {
		b, e := roll.Sorted(l)
		want(t, fmt.Sprint("Sorted ", l), b, e, bookOf(l), api.OK)
		b, e = roll.Sorted(shuffled(x, l))
		want(t, fmt.Sprint("Sorted ", l), b, e, bookOf(l), api.OK)
	})
	for _, l := range badLists() {
		b, e := roll.Sorted(l)
		want(t, fmt.Sprintf("Sorted %.300v", l), b, e, api.Book{}, api.ErrBook)
	}
	b, e := roll.Sorted(plains(turns(api.MaxRecords)...))
	want(t, "Sorted", b, e, fullBook(), api.OK)
}

// P8.1: Add puts the next record of a manor at its place, and leaves a book as it is that has the record.
func TestAdd(t *testing.T) {
	each(400, func(x *rand.Rand, l []api.Record) {
		b := bookOf(l)
		for _, r := range more(x, l, 1, 0, 1, 2, 3, 4, 5) {
			got, e := roll.Add(b, r)
			want(t, fmt.Sprint("Add ", b, r), got, e, bookOf(append(slices.Clone(l), r)), api.OK)
		}
		for _, r := range l {
			got, e := roll.Add(b, r)
			want(t, fmt.Sprint("Add ", b, r), got, e, b, api.OK)
		}
	})
}

// others are other records of a record's item.
func others(r api.Record) []api.Record {
	l := []api.Record{changed(r, func(r *api.Record) { r.Known++ })}
	if r.Kind != api.RecWithdraw {
		return append(l, changed(r, func(r *api.Record) { r.Kind = 41 - r.Kind }), changed(r, func(r *api.Record) { r.Day++ }), changed(r, func(r *api.Record) { r.Text += " " }))
	}
	return append(l, changed(r, func(r *api.Record) { r.Kind, r.Of = 1, at(0, 0) }))
}

// P8.1: the errors of Add, in their order.
func TestAddErrors(t *testing.T) {
	each(200, func(x *rand.Rand, l []api.Record) {
		b := bookOf(l)
		for _, r := range l {
			for _, other := range others(r) {
				got, e := roll.Add(b, other)
				want(t, fmt.Sprint("Add ", b, other), got, e, api.Book{}, api.ErrDiffer)
			}
		}
		for manor, have := range retoldHave(l) {
			for _, no := range []int{have + 1, have + 2, 9999} {
				got, e := roll.Add(b, plain(manor, no))
				want(t, fmt.Sprint("Add ", b, manor, no), got, e, api.Book{}, api.ErrGap)
			}
		}
	})
	for _, r := range badRecords() {
		got, e := roll.Add(fullBook(), r)
		want(t, fmt.Sprintf("Add %.300v", r), got, e, api.Book{}, api.ErrRecord)
	}
	for manor := range api.MaxManors {
		for no, wanted := range map[int]api.Errno{9: api.OK, 10: api.ErrLong, 11: api.ErrGap} {
			got, e := roll.Add(fullBook(), plain(manor, no))
			if wanted == api.OK {
				want(t, "Add", got, e, fullBook(), api.OK)
			} else {
				want(t, fmt.Sprint("Add ", manor, no), got, e, api.Book{}, wanted)
			}
		}
		got, e := roll.Add(fullBook(), others(plain(manor, 9))[0])
		want(t, "Add", got, e, api.Book{}, api.ErrDiffer)
	}
	almost := fullBook()
	last := almost.Records[59]
	almost.Records = almost.Records[:59]
	got, e := roll.Add(almost, last)
	want(t, "Add", got, e, fullBook(), api.OK)
}

// twoBooks are two books that agree: parts of the same records, and with those of manors that are in one of both alone.
func twoBooks(x *rand.Rand, l []api.Record) (a, b api.Book, whole []api.Record) {
	whole = append(slices.Clone(l), more(x, l, x.IntN(5), 3, 4)...)
	return part(x, bookOf(whole)), part(x, bookOf(whole)), whole
}

// P8.1, P8.2: Join has the records of both books, is the same both ways round, and has both within it.
func TestJoin(t *testing.T) {
	each(600, func(x *rand.Rand, l []api.Record) {
		a, b, whole := twoBooks(x, l)
		wanted := bookOf(slices.DeleteFunc(whole, func(r api.Record) bool { return !slices.Contains(a.Records, r) && !slices.Contains(b.Records, r) }))
		got, e := roll.Join(a, b)
		want(t, fmt.Sprint("Join ", a, b), got, e, wanted, api.OK)
		back, e := roll.Join(b, a)
		want(t, fmt.Sprint("Join ", b, a), back, e, wanted, api.OK)
		for _, within := range []api.Book{a, b, got, {}, part(x, got)} {
			again, e := roll.Join(got, within)
			want(t, fmt.Sprint("Join ", got, within), again, e, got, api.OK)
			again, e = roll.Join(within, got)
			want(t, fmt.Sprint("Join ", within, got), again, e, got, api.OK)
		}
	})
}

// P8.1: two books that have another record of one item, or too many together.
func TestJoinErrors(t *testing.T) {
	each(200, func(x *rand.Rand, l []api.Record) {
		a := bookOf(l)
		for i, r := range a.Records {
			for _, other := range others(r) {
				b := api.Book{Records: slices.Clone(a.Records)}
				b.Records[i] = other
				for _, books := range [][2]api.Book{{a, b}, {b, a}} {
					got, e := roll.Join(books[0], books[1])
					want(t, fmt.Sprint("Join ", books), got, e, api.Book{}, api.ErrDiffer)
				}
			}
		}
	})
	tens := func(manors ...int) []api.Record { return plains(slices.Repeat(manors, 10)...) }
	got, e := roll.Join(bookOf(tens(0, 1, 2, 4)), bookOf(tens(3, 5, 2)))
	want(t, "Join of 60", got, e, fullBook(), api.OK)
	got, e = roll.Join(fullBook(), fullBook())
	want(t, "Join of one", got, e, fullBook(), api.OK)
	more := append(tens(2), plain(2, 10))
	for _, b := range []api.Book{bookOf(more), bookOf(append(tens(3, 5), more...))} {
		got, e := roll.Join(fullBook(), b)
		want(t, "Join of 61", got, e, api.Book{}, api.ErrLong)
		got, e = roll.Join(b, fullBook())
		want(t, "Join of 61", got, e, api.Book{}, api.ErrLong)
	}
	more[0] = others(more[0])[0]
	got, e = roll.Join(fullBook(), bookOf(more))
	want(t, "Join of 61, and of two that differ", got, e, api.Book{}, api.ErrDiffer)
}

// P8.1: Have counts the records of each manor.
func TestHave(t *testing.T) {
	each(200, func(_ *rand.Rand, l []api.Record) {
		have, e := roll.Have(bookOf(l))
		want(t, fmt.Sprint("Have ", l), have, e, retoldHave(l), api.OK)
	})
	have, e := roll.Have(bookOf(plains(5, 2, 5)))
	want(t, "Have", have, e, [6]int{0, 0, 1, 0, 0, 2}, api.OK)
	have, e = roll.Have(api.Book{})
	want(t, "Have", have, e, [6]int{}, api.OK)
}

// P8.1: whether a record stands, withdrawals too, and whenever these become known.
func TestStands(t *testing.T) {
	fell := 0
	each(600, func(_ *rand.Rand, l []api.Record) {
		b := bookOf(l)
		for _, r := range l {
			wanted := retoldStands(l, r.At, math.MaxInt)
			stands, e := roll.Stands(b, r.At)
			want(t, fmt.Sprint("Stands ", b, r.At), stands, e, wanted, api.OK)
			if !wanted && r.Kind == api.RecWithdraw {
				fell++
			}
		}
		for manor, have := range retoldHave(l) {
			stands, e := roll.Stands(b, at(manor, have))
			want(t, fmt.Sprint("Stands ", b, manor, have), stands, e, false, api.ErrNone)
		}
	})
	if fell < 50 {
		t.Error("too few withdrawals do not stand: ", fell)
	}
	for _, item := range []api.Item{at(6, 0), at(-1, 0), at(0, 1), at(0, -1), at(1, 0), at(0, 10000), at(math.MaxInt, math.MinInt)} {
		stands, e := roll.Stands(bookOf(plains(0)), item)
		want(t, fmt.Sprint("Stands ", item), stands, e, false, api.ErrNone)
	}
}

// P8.1: the records that stand as known on a day.
func TestStanding(t *testing.T) {
	each(400, func(_ *rand.Rand, l []api.Record) {
		for known := range 13 {
			var wanted []api.Record
			for _, r := range retoldSorted(l) {
				if r.Kind != 0 && r.Known <= known && retoldStands(l, r.At, known) {
					wanted = append(wanted, r)
				}
			}
			got, e := roll.Standing(bookOf(l), known)
			want(t, fmt.Sprint("Standing ", l, known), got, e, wanted, api.OK)
		}
	})
}

// P8.1: a withdrawal that is withdrawn says nothing from the day on which that is known; the days on which things happened say nothing of it.
func TestStandingFromDayToDay(t *testing.T) {
	r := api.Record{At: at(1, 0), Kind: 3, Day: 9, Known: 2}
	b := api.Book{Records: []api.Record{plain(0, 0), r, withdrawal(1, 1, 0, 4), withdrawal(1, 2, 1, 6), withdrawal(1, 3, 0, 8), withdrawal(1, 4, 2, 10)}}
	for known, wanted := range map[int]bool{1: false, 2: true, 3: true, 4: false, 5: false, 6: true, 7: true, 8: false, 10: false, api.MaxDay: false} {
		l, e := roll.Standing(b, known)
		want(t, fmt.Sprint("Standing ", known), slices.Contains(l, r), e, wanted, api.OK)
		if len(l) > 2 || l[0] != plain(0, 0) {
			t.Error(known, l)
		}
	}
	for no, wanted := range map[int]bool{0: false, 1: true, 2: false, 3: true, 4: true} {
		stands, e := roll.Stands(b, at(1, no))
		want(t, fmt.Sprint("Stands ", no), stands, e, wanted, api.OK)
	}
	late := api.Book{Records: []api.Record{changed(r, func(r *api.Record) { r.Known = api.MaxDay }), withdrawal(1, 1, 0, api.MaxDay)}}
	stands, e := roll.Stands(late, at(1, 0))
	want(t, "Stands", stands, e, false, api.OK)
	l, e := roll.Standing(late, api.MaxDay)
	want(t, "Standing", l, e, nil, api.OK)
}
