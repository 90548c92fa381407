package roll_test

import (
	"fmt"
	"math"
	"math/rand/v2"
	"slices"
	"strings"
	"testing"

	"pinfold/api"
	"pinfold/roll"
)

// changed is a value with a change.
func changed[T any](x T, change func(x *T)) T {
	change(&x)
	return x
}

// outside are numbers just beyond limits, and far from them.
func outside(lo, hi int) []int { return []int{lo - 1, hi + 1, math.MinInt, math.MaxInt} }

// spoilt has a value for each that a field of it must not be.
func spoilt[T, F any](x T, of func(x *T) *F, bad ...F) []T {
	var l []T
	for _, f := range bad {
		l = append(l, changed(x, func(x *T) { *of(x) = f }))
	}
	return l
}

func manorOf(r *api.Record) *int      { return &r.At.Manor }
func noOf(r *api.Record) *int         { return &r.At.No }
func kindOf(r *api.Record) *int       { return &r.Kind }
func dayOf(r *api.Record) *int        { return &r.Day }
func knownOf(r *api.Record) *int      { return &r.Known }
func ofOf(r *api.Record) *api.Item    { return &r.Of }
func textField(r *api.Record) *string { return &r.Text }

// badTexts are too long, or have a byte that may not be.
func badTexts() []string {
	l := []string{"?", "a?", "?a", "a\n", "\n", "\x00", "\x1f", "\x7f", "\x80", "\xff", "é", "\t", "a\rb", strings.Repeat("a", api.MaxText+1), strings.Repeat("a", api.MaxText-1) + "\x1f",
		strings.Repeat("a", 1<<20)}
	return append(l, strings.Repeat("a", api.MaxText-1)+"é")
}

// badRecords are not valid.
func badRecords() []api.Record {
	r := api.Record{At: at(5, 9999), Kind: api.MaxKind, Day: api.MaxDay, Known: api.MaxDay, Text: fullText()}
	w := withdrawal(3, 4, 2, 7)
	l := slices.Concat(
		spoilt(r, manorOf, outside(0, 5)...), spoilt(r, noOf, outside(0, 9999)...), spoilt(r, kindOf, outside(0, 40)...),
		spoilt(r, dayOf, outside(0, api.MaxDay)...), spoilt(r, knownOf, outside(0, api.MaxDay)...), spoilt(r, textField, badTexts()...),
		spoilt(r, ofOf, at(0, 1), at(1, 0), at(5, 9998), at(-1, 0), at(0, -1), at(6, 0)),
	)
	return slices.Concat(l,
		spoilt(w, manorOf, 2, 4, 0, -1, 6), spoilt(w, noOf, 2, 1, 0, -1, 10000), spoilt(w, knownOf, outside(0, api.MaxDay)...),
		spoilt(w, dayOf, 1, 7, -1, api.MaxDay), spoilt(w, textField, "a", " ", "?", "0"),
		spoilt(w, ofOf, at(3, 4), at(3, 5), at(2, 2), at(4, 2), at(3, -1), at(0, 0), at(3, math.MinInt), at(3, math.MaxInt)),
		[]api.Record{{Kind: api.RecWithdraw}, {At: at(1, 0)}, {At: at(6, 1), Of: at(6, 0)}, {At: at(-1, 1), Of: at(-1, 0)}, {At: at(1, 10000), Of: at(1, 9999)}},
	)
}

// goodRecords are valid: at their limits, and withdrawals.
func goodRecords() []api.Record {
	r := example()
	return slices.Concat([]api.Record{r, {Kind: 1}, {At: at(5, 9999), Kind: 40, Day: api.MaxDay, Known: api.MaxDay, Text: fullText()}},
		spoilt(r, manorOf, 0, 5), spoilt(r, noOf, 0, 1, 9999), spoilt(r, kindOf, 1, 40), spoilt(r, dayOf, 0, 13, api.MaxDay), spoilt(r, knownOf, 0, 9, api.MaxDay),
		spoilt(r, textField, "", " ", "  a  b ", "~", ">@", "0", fullText(), strings.Repeat(" ", api.MaxText)),
		[]api.Record{withdrawal(0, 1, 0, 0), withdrawal(5, 9999, 9998, api.MaxDay), withdrawal(5, 9999, 0, 3), withdrawal(2, 7, 6, 1)},
	)
}

// P8.1: records, at their limits and one beyond them.
func TestCheckRecord(t *testing.T) {
	for _, r := range goodRecords() {
		wantErrno(t, fmt.Sprint(r), roll.CheckRecord(r), api.OK)
	}
	for _, r := range badRecords() {
		wantErrno(t, fmt.Sprintf("%.200v", r), roll.CheckRecord(r), api.ErrRecord)
	}
}

// P8.1: a text may have just the bytes from 20 to 7E, but 3F.
func TestBytesOfTexts(t *testing.T) {
	for c := range 256 {
		wanted := api.ErrRecord
		if c >= 0x20 && c <= 0x7e && c != 0x3f {
			wanted = api.OK
		}
		wantErrno(t, fmt.Sprint("the byte ", c), roll.CheckRecord(changed(example(), func(r *api.Record) { r.Text = "ab" + string([]byte{byte(c)}) })), wanted)
	}
}

// badLists are not written one after the other.
func badLists() [][]api.Record {
	l := plains(1, 0, 1, 0)
	lists := [][]api.Record{
		{plain(0, 1)}, {plain(5, 9999)}, {l[0], l[0]}, {l[2], l[0]}, {l[0], l[1], l[3], l[3]}, {l[0], plain(1, 2)}, {l[1], l[0], plain(0, 2)},
		plains(turns(api.MaxRecords + 1)...), slices.Concat(plains(turns(api.MaxRecords)...), plains(0)[:1]),
	}
	for _, r := range badRecords() {
		lists = append(lists, []api.Record{l[0], l[1], r})
	}
	return lists
}

// badBooks are not valid.
func badBooks() []api.Book {
	full := fullBook().Records
	books := []api.Book{{Records: plains(1, 0)}, {Records: plains(0, 1, 0)}, {Records: plains(0, 1, 2, 4, 3)}, {Records: append(full, plain(5, 10))}, {Records: full[1:]}}
	for _, l := range badLists() {
		books = append(books, api.Book{Records: l})
	}
	return books
}

// P8.1: books, at their limits and one beyond them.
func TestCheck(t *testing.T) {
	alone := bookOf(plains(make([]int, api.MaxRecords)...))
	for _, b := range []api.Book{{}, {Records: []api.Record{}}, {Records: plains(5)}, {Records: plains(0, 0, 3, 3, 5)}, fullBook(), alone} {
		wantErrno(t, fmt.Sprint(b), roll.Check(b), api.OK)
	}
	for i, b := range badBooks() {
		wantErrno(t, fmt.Sprint("bad book ", i), roll.Check(b), api.ErrBook)
	}
	each(300, func(_ *rand.Rand, l []api.Record) {
		wantErrno(t, fmt.Sprint(l), roll.Check(bookOf(l)), api.OK)
	})
}

// badRolls do not have the records: rolls that have them, and records, with one of both changed.
func badRolls(r api.Rolls, written []api.Record) []pair[api.Rolls, []api.Record] {
	var l []pair[api.Rolls, []api.Record]
	add := func(change func(r *api.Rolls, written *[]api.Record)) {
		turned, records := r, slices.Clone(written)
		change(&turned, &records)
		l = append(l, pair[api.Rolls, []api.Record]{turned, records})
	}
	for _, odd := range []string{"a", "\n", " ", "?", "0"} {
		add(func(r *api.Rolls, _ *[]api.Record) { r.Main.Dry += odd })
		add(func(r *api.Rolls, _ *[]api.Record) { r.Main.Wet += odd })
		add(func(r *api.Rolls, _ *[]api.Record) { r.Copy.Wet += odd })
		add(func(r *api.Rolls, _ *[]api.Record) { r.Copy = api.Roll{Dry: odd} })
	}
	last := len(written) - 1
	add(func(r *api.Rolls, _ *[]api.Record) { r.Main = api.Roll{} })
	add(func(r *api.Rolls, _ *[]api.Record) { r.Main.Wet = r.Main.Wet[1:] })
	add(func(r *api.Rolls, _ *[]api.Record) { r.Copy.Dry = r.Copy.Dry[:len(r.Copy.Dry)-1] })
	add(func(r *api.Rolls, _ *[]api.Record) { r.Main = api.Roll{Dry: r.Main.Wet, Wet: r.Main.Dry} })
	add(func(r *api.Rolls, _ *[]api.Record) { r.Main = api.Roll{Dry: textOf(written[:last])} })
	add(func(r *api.Rolls, _ *[]api.Record) { r.Copy.Dry = textOf(written[1:]) })
	add(func(r *api.Rolls, _ *[]api.Record) { r.Copy.Dry += textOf(written) })
	add(func(_ *api.Rolls, written *[]api.Record) { *written = (*written)[:last] })
	add(func(_ *api.Rolls, written *[]api.Record) { *written = nil })
	add(func(_ *api.Rolls, written *[]api.Record) { (*written)[last].Known++ })
	add(func(_ *api.Rolls, written *[]api.Record) { (*written)[0].Text += "!" })
	for _, bad := range badLists() {
		l = append(l, pair[api.Rolls, []api.Record]{officeOf(0, bad, nil).Rolls, bad}, pair[api.Rolls, []api.Record]{r, bad})
	}
	return l
}

// P8.1: rolls have records if Main has the text of all of them, and Copy that of the first ones.
func TestCheckRolls(t *testing.T) {
	l := plains(0, 3, 0, 1)
	whole := textOf(l)
	wantErrno(t, "new rolls", roll.CheckRolls(api.Rolls{}, nil), api.OK)
	for split := range len(whole) + 1 {
		for copied := range len(l) + 1 {
			text := textOf(l[:copied])
			r := api.Rolls{Main: api.Roll{Dry: whole[:split], Wet: whole[split:]}, Copy: api.Roll{Dry: text[:min(split, len(text))], Wet: text[min(split, len(text)):]}}
			wantErrno(t, fmt.Sprint(split, copied), roll.CheckRolls(r, l), api.OK)
		}
	}
	for n := range len(whole) {
		wanted := api.ErrRolls
		for i := range l {
			if n == len(textOf(l[:i])) {
				wanted = api.OK
			}
		}
		wantErrno(t, fmt.Sprint("Copy has ", n), roll.CheckRolls(api.Rolls{Main: api.Roll{Dry: whole}, Copy: api.Roll{Dry: whole[:n]}}, l), wanted)
		wantErrno(t, fmt.Sprint("Main has ", n), roll.CheckRolls(api.Rolls{Main: api.Roll{Wet: whole[:n]}}, l), api.ErrRolls)
	}
	full := fullOffice()
	wantErrno(t, "full rolls", roll.CheckRolls(full.Rolls, full.Written), api.OK)
	for i, bad := range badRolls(officeOf(0, l[:2], l[2:]).Rolls, l) {
		wantErrno(t, fmt.Sprint("bad rolls ", i), roll.CheckRolls(bad.A, bad.B), api.ErrRolls)
	}
}

// badOffices are not valid.
func badOffices() []api.Office {
	m := good().m
	l := spoilt(m, func(m *api.Office) *int { return &m.Me }, outside(0, 5)...)
	for _, bad := range outside(0, api.MaxRecords) {
		l = append(l, changed(m, func(m *api.Office) { m.Known[0][0] = bad }), changed(m, func(m *api.Office) { m.Known[5][5] = bad }), changed(m, func(m *api.Office) { m.Known[m.Me][2] = bad }))
	}
	for _, bad := range badRolls(m.Rolls, m.Written) {
		l = append(l, api.Office{Me: m.Me, Rolls: bad.A, Written: bad.B})
	}
	return l
}

// badLetters are not valid, or to another office.
func badLetters() []api.Letter {
	x := good().x
	l := slices.Concat(
		spoilt(x, func(x *api.Letter) *int { return &x.From }, append(outside(0, 5), x.To)...),
		spoilt(x, func(x *api.Letter) *int { return &x.To }, append(outside(0, 5), x.From, 0, 5)...),
	)
	for _, bad := range outside(0, api.MaxRecords) {
		l = append(l, changed(x, func(x *api.Letter) { x.Have[0] = bad }), changed(x, func(x *api.Letter) { x.Have[5] = bad }))
	}
	for _, bad := range badRecords() {
		l = append(l, changed(x, func(x *api.Letter) { x.Records = []api.Record{plain(5, 9), bad} }), changed(x, func(x *api.Letter) { x.Records = []api.Record{bad} }))
	}
	l = append(l, changed(x, func(x *api.Letter) { x.Records = plains(turns(api.MaxCarry + 1)...) }))
	return append(l, changed(x, func(x *api.Letter) { x.Records = make([]api.Record, api.MaxCarry+1) }))
}
