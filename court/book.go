package court

import (
	"cmp"
	"slices"
	"strings"

	"pinfold/api"
	"pinfold/fine"
	"pinfold/herd"
	"pinfold/plaint"
	"pinfold/roll"
	"pinfold/stint"
)

// maxDigits is how long a number in the Text of a record is at most.
const maxDigits = 9

// numbersIn reads the numbers of a record's Text; false if it has another form.
func numbersIn(text string) ([]int, bool) {
	var l []int
	for word := range strings.SplitSeq(text, " ") {
		n, ok := numberOf(word)
		if !ok || n < 0 || len(word) > maxDigits {
			return nil, false
		}
		l = append(l, n)
	}
	return l, true
}

// assign puts numbers into fields; false if there are not just as many.
func assign(numbers []int, fields ...*int) bool {
	if len(numbers) != len(fields) {
		return false
	}
	for i, field := range fields {
		*field = numbers[i]
	}
	return true
}

// those returns what records of a book say, in order, but those that do not say it.
func those[T any](b api.Book, read func(r api.Record) (T, bool)) ([]T, api.Errno) {
	if e := roll.Check(b); e != api.OK {
		return nil, e
	}
	var l []T
	for _, r := range b.Records {
		if x, ok := read(r); ok {
			l = append(l, x)
		}
	}
	return l, api.OK
}

// Events returns the events of a book.
func Events(b api.Book) ([]api.Event, api.Errno) { return those(b, eventOf) }

func eventOf(r api.Record) (api.Event, bool) {
	// No event is of another kind than 0 to 6.
	x, e := herd.Read(api.Event{At: r.At, Kind: r.Kind, Day: r.Day, Known: r.Known, Of: r.Of}, r.Text)
	return x, e == api.OK
}

// said is what the numbers in the Text of a record say; false if they say it wrongly.
func said[T any](r api.Record, with func(r api.Record, numbers []int) (T, api.Errno)) (T, bool) {
	numbers, ok := numbersIn(r.Text)
	x, e := with(r, numbers)
	return x, ok && e == api.OK
}

// Deeds returns the deeds of a book.
func Deeds(b api.Book) ([]api.Deed, api.Errno) { return those(b, deedOf) }

func deedOf(r api.Record) (api.Deed, bool) {
	if r.Kind == api.RecWithdraw {
		return api.Deed{At: r.At, Kind: api.DeWithdraw, Known: r.Known, Of: r.Of}, true
	}
	return said(r, deedWith)
}

// deedWith is the deed that a record says whose Text has these numbers.
func deedWith(r api.Record, numbers []int) (api.Deed, api.Errno) {
	x := api.Deed{At: r.At, Kind: r.Kind - api.RecDeed, Day: r.Day, Known: r.Known}
	ok := false
	switch x.Kind {
	case api.DeHold, api.DeOwner:
		ok = assign(numbers, &x.Holding, &x.Owner)
	case api.DeRight:
		ok = assign(numbers, &x.Holding, &x.Pasture, &x.Parts)
	case api.DeSplit:
		ok = assign(numbers, &x.Holding, &x.To, &x.Pasture, &x.Parts)
	case api.DeJoin:
		ok = assign(numbers, &x.Holding, &x.To)
	case api.DeLet:
		ok = assign(numbers, &x.Holding, &x.To, &x.Pasture, &x.Parts, &x.Until)
	case api.DeOpen, api.DeClose:
		ok = assign(numbers, &x.Pasture, &x.Until)
	}
	return x, cmp.Or(errorUnless(ok, api.ErrDeed), stint.CheckDeed(x))
}

// endOf is the day from which on a record of a book does not count (0: it always does); false if it never counts.
func endOf(b api.Book, r api.Record) (int, bool) {
	i := slices.IndexFunc(b.Records, func(x api.Record) bool { return x.Kind == api.RecWithdraw && x.Of == r.At })
	if i < 0 {
		return 0, true
	}
	end := b.Records[i].Known
	return end, end > r.Known
}

// lasting returns what records of a book say that counts until they are withdrawn.
func lasting[T any](b api.Book, with func(r api.Record, numbers []int) (T, api.Errno), untilOf func(x *T) *int) ([]T, api.Errno) {
	return those(b, func(r api.Record) (T, bool) {
		x, ok := said(r, with)
		end, counts := endOf(b, r)
		*untilOf(&x) = end
		return x, ok && counts
	})
}

// Stays returns the stays of a book.
func Stays(b api.Book) ([]api.Held, api.Errno) {
	return lasting(b, stayWith, func(x *api.Held) *int { return &x.Until })
}

// stayWith is the stay that a record says whose Text has these numbers, and that nothing withdraws.
func stayWith(r api.Record, numbers []int) (api.Held, api.Errno) {
	x := api.Held{Source: herd.Source(r.At), Day: r.Day, Known: r.Known}
	ok := r.Kind == api.RecHeld && assign(numbers, &x.Beast, &x.Sort, &x.Eats, &x.Worth, &x.Driver)
	return x, cmp.Or(errorUnless(ok, api.ErrHeld), fine.CheckHeld(x))
}

// Notes returns the notes of a book.
func Notes(b api.Book) ([]api.Note, api.Errno) {
	return lasting(b, noteWith, func(x *api.Note) *int { return &x.Until })
}

// noteWith is the note that a record says whose Text has these numbers, and that nothing withdraws.
func noteWith(r api.Record, numbers []int) (api.Note, api.Errno) {
	x := api.Note{Source: herd.Source(r.At), Day: r.Day, Known: r.Known}
	ok := false
	switch r.Kind {
	case api.RecClaimed:
		x.Kind, ok = api.Claimed, assign(numbers, &x.Stay, &x.Owner)
	case api.RecFreed:
		x.Kind, ok = api.Freed, assign(numbers, &x.Stay)
	case api.RecJudged:
		x.Kind, ok = api.Judged, assign(numbers, &x.Stay, &x.Owner)
	}
	return x, cmp.Or(errorUnless(ok, api.ErrNote), fine.CheckNote(x))
}

// Findings returns the findings of a book on the plaints of a case.
func Findings(b api.Book, c api.Case) ([]api.Finding, api.Errno) {
	all, e := those(b, findingOf)
	if e := cmp.Or(e, plaint.Check(c)); e != api.OK {
		return nil, e
	}
	var l []api.Finding
	for _, f := range all {
		if with, e := plaint.Find(c, f); e == api.OK {
			c, l = with, append(l, f)
		}
	}
	return l, api.OK
}

func findingOf(r api.Record) (api.Finding, bool) { return said(r, findingWith) }

// findingWith is the finding that a record says whose Text has these numbers.
func findingWith(r api.Record, numbers []int) (api.Finding, api.Errno) {
	x := api.Finding{Source: herd.Source(r.At), Day: r.Day, Known: r.Known}
	ok := r.Kind == api.RecFinding && assign(numbers, &x.Plaint, &x.Amount, &x.Pays)
	return x, cmp.Or(errorUnless(ok, api.ErrFinding), plaint.CheckFinding(x))
}

func validManor(manor int) bool { return within(manor, 0, api.MaxManors-1) }

func within(n, lo, hi int) bool { return lo <= n && n <= hi }

func errorUnless(ok bool, e api.Errno) api.Errno {
	if ok {
		return api.OK
	}
	return e
}
