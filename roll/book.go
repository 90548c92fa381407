package roll

import (
	"cmp"
	"slices"

	"pinfold/api"
)

// counts has, for each manor, how many records of it there are: the No of the next one.
type counts [api.MaxManors]int

// countsOf counts records that have no gaps.
func countsOf(l []api.Record) counts {
	var have counts
	for _, r := range l {
		have[r.At.Manor]++
	}
	return have
}

// next reports whether a valid record is the next one of its manor.
func (have counts) next(r api.Record) bool { return r.At.No == have[r.At.Manor] }

// has reports whether a valid record is one of those that are counted.
func (have counts) has(r api.Record) bool { return r.At.No < have[r.At.Manor] }

// skips reports whether earlier records of its manor are missing ahead of a valid record.
func (have counts) skips(r api.Record) bool { return r.At.No > have[r.At.Manor] }

func compareItems(a, b api.Item) int {
	return cmp.Or(cmp.Compare(a.Manor, b.Manor), cmp.Compare(a.No, b.No))
}

func compareRecords(a, b api.Record) int { return compareItems(a.At, b.At) }

// place is where the record of an item is, or would be, by their items, and whether it is there.
func place(l []api.Record, at api.Item) (int, bool) {
	return slices.BinarySearchFunc(l, at, func(r api.Record, at api.Item) int { return compareItems(r.At, at) })
}

// sorted returns records by their items.
func sorted(l []api.Record) []api.Record { return slices.SortedFunc(slices.Values(l), compareRecords) }

// Sorted returns the book of records that were written one after the other.
func Sorted(l []api.Record) (api.Book, api.Errno) {
	if !areWritten(l) {
		return api.Book{}, api.ErrBook
	}
	return api.Book{Records: sorted(l)}, api.OK
}

// Add returns a book with one more record.
func Add(b api.Book, r api.Record) (api.Book, api.Errno) {
	if e := cmp.Or(Check(b), CheckRecord(r)); e != api.OK {
		return api.Book{}, e
	}
	i, there := place(b.Records, r.At)
	if there && b.Records[i] == r {
		return api.Book{Records: slices.Clone(b.Records)}, api.OK
	}
	e := cmp.Or(
		errorUnless(!there, api.ErrDiffer),
		errorUnless(!countsOf(b.Records).skips(r), api.ErrGap),
		errorUnless(len(b.Records) < api.MaxRecords, api.ErrLong),
	)
	if e != api.OK {
		return api.Book{}, e
	}
	return api.Book{Records: slices.Insert(slices.Clone(b.Records), i, r)}, api.OK
}

// Join returns the records of both books.
func Join(a, b api.Book) (api.Book, api.Errno) {
	if e := cmp.Or(Check(a), Check(b)); e != api.OK {
		return api.Book{}, e
	}
	l := make([]api.Record, len(a.Records)+len(b.Records))
	copy(l, a.Records)
	copy(l[len(a.Records):], b.Records)
	slices.SortFunc(l, compareRecords)
	l = slices.Compact(l)
	for i, r := range l {
		if i > 0 && l[i-1].At == r.At {
			return api.Book{}, api.ErrDiffer
		}
	}
	if len(l) > api.MaxRecords {
		return api.Book{}, api.ErrLong
	}
	return api.Book{Records: l}, api.OK
}

// Have returns how many records of each manor a book has.
func Have(b api.Book) ([api.MaxManors]int, api.Errno) {
	if e := Check(b); e != api.OK {
		return counts{}, e
	}
	return countsOf(b.Records), api.OK
}

// withdrawn has the items that the withdrawals of a valid book name which stand, where those that become known behind a day say nothing.
func withdrawn(l []api.Record, known int) map[api.Item]bool {
	named := map[api.Item]bool{}
	// A withdrawal is behind the record that it names, so that it is decided first.
	for _, r := range slices.Backward(l) {
		if r.Kind == api.RecWithdraw && r.Known <= known && !named[r.At] {
			named[r.Of] = true
		}
	}
	return named
}

// Stands reports whether the record of an item stands.
func Stands(b api.Book, at api.Item) (bool, api.Errno) {
	if e := Check(b); e != api.OK {
		return false, e
	}
	if _, there := place(b.Records, at); !there {
		return false, api.ErrNone
	}
	return !withdrawn(b.Records, api.MaxDay)[at], api.OK
}

// Standing returns the records that stand, as known on a day.
func Standing(b api.Book, known int) ([]api.Record, api.Errno) {
	if e := checkKnown(b, known); e != api.OK {
		return nil, e
	}
	var l []api.Record
	named := withdrawn(b.Records, known)
	for _, r := range b.Records {
		if r.Kind != api.RecWithdraw && r.Known <= known && !named[r.At] {
			l = append(l, r)
		}
	}
	return l, api.OK
}
