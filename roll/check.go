package roll

import (
	"cmp"
	"slices"

	"pinfold/api"
)

// The bytes that a text may have are these and all between them, but what a smudge makes of a byte.
const (
	firstByte = ' '
	lastByte  = '~'
	smudge    = '?'
)

// CheckRecord reports whether a record is valid.
func CheckRecord(r api.Record) api.Errno {
	ok := validItem(r.At) && within(r.Kind, 0, api.MaxKind) && validDay(r.Day) && validDay(r.Known) && validText(r.Text) && namesRightly(r)
	return errorUnless(ok, api.ErrRecord)
}

func validText(text string) bool {
	if len(text) > api.MaxText {
		return false
	}
	for _, c := range []byte(text) {
		if c < firstByte || c > lastByte || c == smudge {
			return false
		}
	}
	return true
}

// namesRightly reports whether a record withdraws an earlier one and says nothing else, or withdraws none.
func namesRightly(r api.Record) bool {
	if r.Kind != api.RecWithdraw {
		return r.Of == api.Item{}
	}
	return r.Day == 0 && r.Text == "" && validItem(r.Of) && r.Of.Manor == r.At.Manor && r.Of.No < r.At.No
}

// Check reports whether a book is valid.
func Check(b api.Book) api.Errno {
	// Records without a gap that are in the order of their items are written one after the other.
	return errorUnless(areWritten(b.Records) && slices.IsSortedFunc(b.Records, compareRecords), api.ErrBook)
}

// areWritten reports whether records are written one after the other.
func areWritten(l []api.Record) bool {
	if len(l) > api.MaxRecords {
		return false
	}
	var have counts
	for _, r := range l {
		if CheckRecord(r) != api.OK || !have.next(r) {
			return false
		}
		have[r.At.Manor]++
	}
	return true
}

// checkKnown checks the arguments of what is told of a book as known on a day.
func checkKnown(b api.Book, known int) api.Errno {
	return cmp.Or(Check(b), errorUnless(validDay(known), api.ErrDay))
}

// CheckRolls reports whether rolls have just the records that were written.
func CheckRolls(r api.Rolls, written []api.Record) api.Errno {
	return errorUnless(areWritten(written) && haveLines(r, written), api.ErrRolls)
}

// haveLines reports whether the text of Main is that of valid records, and the text of Copy that of the first ones.
func haveLines(r api.Rolls, written []api.Record) bool {
	text, copied := "", textOn(r.Copy)
	found := copied == text
	for line := range lines(written) {
		text += line
		found = found || copied == text
	}
	return found && textOn(r.Main) == text
}

func checkOffice(m api.Office) api.Errno {
	ok := validManor(m.Me) && CheckRolls(m.Rolls, m.Written) == api.OK
	for _, have := range m.Known {
		ok = ok && validCounts(have)
	}
	return errorUnless(ok, api.ErrOffice)
}

func checkLetter(x api.Letter) api.Errno {
	ok := validManor(x.From) && validManor(x.To) && x.From != x.To && validCounts(x.Have) && len(x.Records) <= api.MaxCarry
	return errorUnless(ok && allValid(x.Records), api.ErrLetter)
}

func allValid(l []api.Record) bool {
	return !slices.ContainsFunc(l, func(r api.Record) bool { return CheckRecord(r) != api.OK })
}

func validCounts(l counts) bool {
	for _, n := range l {
		if !within(n, 0, api.MaxRecords) {
			return false
		}
	}
	return true
}

func validItem(x api.Item) bool { return validManor(x.Manor) && within(x.No, 0, api.MaxNo) }

func validManor(manor int) bool { return within(manor, 0, api.MaxManors-1) }

func validDay(day int) bool { return within(day, 0, api.MaxDay) }

func checkSum(sum int) api.Errno { return errorUnless(within(sum, 0, api.SumOf-1), api.ErrArg) }

func within(n, lo, hi int) bool { return lo <= n && n <= hi }

func errorUnless(ok bool, e api.Errno) api.Errno {
	if ok {
		return api.OK
	}
	return e
}
