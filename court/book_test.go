package court_test

import (
	"fmt"
	"math/rand/v2"
	"strings"
	"testing"

	"pinfold/api"
	"pinfold/court"
)

func item(manor, no int) api.Item { return api.Item{Manor: manor, No: no} }

// bookOf is a book of the manor 2.
func bookOf(l ...api.Record) api.Book {
	for i := range l {
		l[i].At = item(2, i)
	}
	return api.Book{Records: l}
}

func rec(kind, day, known int, text string) api.Record {
	return api.Record{Kind: kind, Day: day, Known: known, Text: text}
}

// withdrawn is a record that withdraws the one of the manor 2 with this number.
func withdrawn(known, no int) api.Record { return api.Record{Known: known, Of: item(2, no)} }

// textsOf are texts that records of a kind have.
func textsOf(kind int) []string {
	switch kind {
	case 1:
		return []string{"7 1 5 0", "8 2 6 7", "9999 9 99 9999"}
	case 2:
		return []string{"7 1", "9 9"}
	case 3, 5, 11, 13, 22, 24:
		return []string{"1 5", "2 6", "99 99"}
	case 4:
		return []string{"7 31 31 31 31 31 31", "8 1 1 2 4 8 16"}
	case 6, 23:
		return []string{"1", "7", "99"}
	case 12:
		return []string{"1 1 60", "99 99 100000"}
	case 14:
		return []string{"1 2 1 60", "2 1 99 1"}
	case 15:
		return []string{"1 2", "99 98"}
	case 16:
		return []string{"1 2 1 60 100000", "2 1 3 4 99999"}
	case 17, 18:
		return []string{"1 100000", "99 99999"}
	case 21:
		return []string{"7 1 20 500 9", "9999 9 100 100000 99", "1 1 0 0 0"}
	case 25:
		return []string{"1 60 20", "2 0 0", "1 1000000 1000000", "3 30 30"}
	}
	return []string{"", "1", "1 5", "a"}
}

// spoilt is a text of which something is another way.
func spoilt(x *rand.Rand, text string) string {
	words := strings.Split(text, " ")
	i := x.IntN(len(words))
	switch x.IntN(8) {
	case 0:
		return text + pick(x, " ", " 0", " 1", ".", "0")
	case 1:
		return pick(x, " ", "0", "-", "+", "x") + text
	case 2:
		words[i] = pick(x, "", "0", "00", "01", "-1", "-0", "+1", "x", "100", "1000", "100001", "999999999", "1000000000", "0000000001", "9999999999999999999999")
	case 3:
		words = append(words[:i], words[i+1:]...)
	case 4:
		return strings.ReplaceAll(text, " ", "  ")
	case 5:
		return ""
	case 6:
		words[i] += "0"
	case 7:
		words[i] = "0" + words[i]
	}
	return strings.Join(words, " ")
}

// randomBook is a valid one.
func randomBook(x *rand.Rand) api.Book {
	kinds := []int{0, 0, 0, 1, 2, 3, 4, 5, 6, 7, 10, 11, 12, 13, 14, 15, 16, 17, 18, 19, 20, 21, 21, 21, 22, 22, 23, 24, 25, 25, 26, 40}
	var b api.Book
	for manor := range api.MaxManors {
		for no := range x.IntN(11) {
			r := rec(pick(x, kinds...), pick(x, 0, 1, 5, 100000), pick(x, 0, 1, 5, 9, 100000), "")
			r.At = item(manor, no)
			if r.Kind == 0 && no > 0 {
				r.Day, r.Of = 0, item(manor, x.IntN(no))
			} else if r.Kind == 0 {
				r.Kind = 21
			}
			if r.Kind != 0 {
				r.Text = pick(x, textsOf(r.Kind)...)
				if x.IntN(5) == 0 {
					r.Text = spoilt(x, r.Text)
				}
			}
			b.Records = append(b.Records, r)
		}
	}
	return b
}

// pleas are plaints 1 and 2, on which there is a finding.
func pleas() api.Case {
	return api.Case{
		Sureties: []api.Surety{{Id: 1, Worth: api.Range{Lo: 500, Hi: 500}}},
		Plaints: []api.Plaint{
			{Id: 1, Owner: 5, Beasts: []int{7}, Claim: api.Range{Hi: 100}, Sureties: []int{1}},
			{Id: 2, Owner: 6, Beasts: []int{8}, Claim: api.Range{Hi: 20}, Sureties: []int{1}},
		},
		Findings: []api.Finding{{Source: 20003, Plaint: 2, Amount: 5}},
	}
}

// wantBook wants what the chapter tells of a book.
func wantBook(t *testing.T, b api.Book) (counts [5]int) {
	t.Helper()
	if !validBook(b) {
		t.Fatal("no book: ", b)
	}
	events, e := court.Events(b)
	want(t, "Events", events, e, retoldEvents(b.Records), api.OK)
	deeds, e := court.Deeds(b)
	want(t, "Deeds", deeds, e, retoldDeeds(b.Records), api.OK)
	stays, e := court.Stays(b)
	want(t, "Stays", stays, e, retoldStays(b.Records), api.OK)
	notes, e := court.Notes(b)
	want(t, "Notes", notes, e, retoldNotes(b.Records), api.OK)
	findings, e := court.Findings(b, pleas())
	want(t, "Findings", findings, e, retoldFindings(b.Records, pleas()), api.OK)
	return [5]int{len(events), len(deeds), len(stays), len(notes), len(findings)}
}

// P10.2: what is in random books is as the chapter tells it.
func TestRandomBooks(t *testing.T) {
	x := newRandom(4)
	var all [5]int
	for range 2000 {
		for i, n := range wantBook(t, randomBook(x)) {
			all[i] += n
		}
	}
	for i, n := range all {
		if n < 300 {
			t.Error("too few of the list ", i, n)
		}
	}
}

// P10.2: each text of each kind, and each way of spoiling it, is as the chapter tells it.
func TestTexts(t *testing.T) {
	x := newRandom(5)
	for kind := 1; kind <= api.MaxKind; kind++ {
		for from := range 26 {
			for _, text := range textsOf(from) {
				wantBook(t, bookOf(rec(kind, 5, 6, text)))
				for range 12 {
					wantBook(t, bookOf(rec(kind, 5, 6, spoilt(x, text))))
				}
			}
		}
	}
}

// P10.2: the records of each kind, with all their fields.
func TestBookOfAllKinds(t *testing.T) {
	b := bookOf(
		rec(1, 1, 2, "8 1 5 7"), rec(2, 3, 4, "9 2"), rec(3, 5, 6, "8 6"), rec(4, 7, 8, "9 1 2 4 8 16 31"), rec(5, 9, 10, "9 5"), rec(6, 11, 12, "8"),
		withdrawn(13, 0),
		rec(11, 1, 2, "1 5"), rec(12, 3, 4, "1 7 60"), rec(13, 5, 6, "1 6"), rec(14, 7, 8, "1 2 7 30"), rec(15, 9, 10, "1 2"), rec(16, 11, 12, "1 2 7 30 99"), rec(17, 13, 14, "7 98"), rec(18, 15, 16, "7 97"),
		rec(21, 1, 2, "8 1 20 500 9"), rec(22, 3, 4, "20016 5"), rec(23, 5, 6, "20017"), rec(24, 7, 8, "20016 6"),
		rec(25, 9, 10, "1 60 20"), rec(25, 11, 12, "2 21 20"), rec(25, 13, 14, "3 0 0"), rec(25, 15, 16, "2 20 20"), withdrawn(17, 19),
	)
	events, e := court.Events(b)
	want(t, "Events", events, e, []api.Event{
		{At: item(2, 0), Kind: api.EvBorn, Day: 1, Known: 2, Beast: 8, Sort: 1, Owner: 5, Dam: 7}, {At: item(2, 1), Kind: api.EvStray, Day: 3, Known: 4, Beast: 9, Sort: 2},
		{At: item(2, 2), Kind: api.EvSold, Day: 5, Known: 6, Beast: 8, Owner: 6}, {At: item(2, 3), Kind: api.EvSeen, Day: 7, Known: 8, Beast: 9, Seen: api.Reading{1, 2, 4, 8, 16, 31}},
		{At: item(2, 4), Kind: api.EvFound, Day: 9, Known: 10, Beast: 9, Owner: 5}, {At: item(2, 5), Kind: api.EvDied, Day: 11, Known: 12, Beast: 8},
		{At: item(2, 6), Known: 13, Of: item(2, 0)}, {At: item(2, 23), Known: 17, Of: item(2, 19)},
	}, api.OK)
	deeds, e := court.Deeds(b)
	want(t, "Deeds", deeds, e, []api.Deed{
		{At: item(2, 6), Known: 13, Of: item(2, 0)},
		{At: item(2, 7), Kind: api.DeHold, Day: 1, Known: 2, Holding: 1, Owner: 5}, {At: item(2, 8), Kind: api.DeRight, Day: 3, Known: 4, Holding: 1, Pasture: 7, Parts: 60},
		{At: item(2, 9), Kind: api.DeOwner, Day: 5, Known: 6, Holding: 1, Owner: 6}, {At: item(2, 10), Kind: api.DeSplit, Day: 7, Known: 8, Holding: 1, To: 2, Pasture: 7, Parts: 30},
		{At: item(2, 11), Kind: api.DeJoin, Day: 9, Known: 10, Holding: 1, To: 2}, {At: item(2, 12), Kind: api.DeLet, Day: 11, Known: 12, Holding: 1, To: 2, Pasture: 7, Parts: 30, Until: 99},
		{At: item(2, 13), Kind: api.DeOpen, Day: 13, Known: 14, Pasture: 7, Until: 98}, {At: item(2, 14), Kind: api.DeClose, Day: 15, Known: 16, Pasture: 7, Until: 97},
		{At: item(2, 23), Known: 17, Of: item(2, 19)},
	}, api.OK)
	stays, e := court.Stays(b)
	want(t, "Stays", stays, e, []api.Held{{Source: 20016, Beast: 8, Sort: 1, Eats: 20, Worth: 500, Driver: 9, Day: 1, Known: 2}}, api.OK)
	notes, e := court.Notes(b)
	want(t, "Notes", notes, e, []api.Note{
		{Source: 20017, Stay: 20016, Kind: api.Claimed, Owner: 5, Day: 3, Known: 4}, {Source: 20018, Stay: 20017, Kind: api.Freed, Day: 5, Known: 6},
		{Source: 20019, Stay: 20016, Kind: api.Judged, Owner: 6, Day: 7, Known: 8},
	}, api.OK)
	findings, e := court.Findings(b, pleas())
	want(t, "Findings", findings, e, []api.Finding{{Source: 20020, Plaint: 1, Day: 9, Known: 10, Amount: 60, Pays: 20}, {Source: 20023, Plaint: 2, Day: 15, Known: 16, Amount: 20, Pays: 20}}, api.OK)
	wantBook(t, b)
}

// P10.2: a stay or a note counts up to the first withdrawal, whether that is withdrawn or not, and is left out if this is known no later.
func TestWithdrawnStays(t *testing.T) {
	for _, c := range []struct {
		known []int // of the withdrawals, one behind the other
		until int   // -1: it is left out
	}{{nil, 0}, {[]int{6}, 6}, {[]int{5}, -1}, {[]int{4}, -1}, {[]int{0}, -1}, {[]int{9, 6}, 9}, {[]int{6, 9}, 6}, {[]int{6, 0}, 6}, {[]int{0, 6}, -1}, {[]int{100000}, 100000}} {
		l := []api.Record{rec(21, 1, 5, "8 1 20 500 9"), rec(23, 1, 5, "20001")}
		for _, known := range c.known {
			l = append(l, withdrawn(known, 0), withdrawn(known, 1))
		}
		if len(c.known) > 0 {
			l = append(l, withdrawn(6, 2), withdrawn(6, 3))
		}
		b := bookOf(l...)
		wantBook(t, b)
		stays, e := court.Stays(b)
		wantedStays := []api.Held{{Source: 20001, Beast: 8, Sort: 1, Eats: 20, Worth: 500, Driver: 9, Day: 1, Known: 5, Until: c.until}}
		notes, e2 := court.Notes(b)
		wantedNotes := []api.Note{{Source: 20002, Stay: 20001, Kind: api.Freed, Day: 1, Known: 5, Until: c.until}}
		if c.until < 0 {
			wantedStays, wantedNotes = nil, nil
		}
		want(t, fmt.Sprint("Stays ", c.known), stays, e, wantedStays, api.OK)
		want(t, fmt.Sprint("Notes ", c.known), notes, e2, wantedNotes, api.OK)
	}
}

// P10.2: withdrawals of another manor's record with the same number withdraw nothing.
func TestWithdrawnByItsManor(t *testing.T) {
	b := api.Book{Records: []api.Record{
		{At: item(0, 0), Kind: 21, Known: 1, Text: "8 1 20 500 9"}, {At: item(1, 0), Kind: 21, Known: 2, Text: "9 1 20 500 9"}, {At: item(1, 1), Known: 5, Of: item(1, 0)},
	}}
	stays, e := court.Stays(b)
	want(t, "Stays", stays, e, []api.Held{{Source: 1, Beast: 8, Sort: 1, Eats: 20, Worth: 500, Driver: 9, Known: 1}, {Source: 10001, Beast: 9, Sort: 1, Eats: 20, Worth: 500, Driver: 9, Known: 2, Until: 5}}, api.OK)
}

// P10.2: a finding is taken if the case, with all that were taken ahead of it, takes it.
func TestFindings(t *testing.T) {
	b := bookOf(rec(25, 1, 1, "1 100 100"), rec(25, 1, 1, "1 101 0"), rec(25, 1, 1, "1 0 0"), rec(25, 2, 1, "2 20 0"), rec(25, 1, 1, "1 5 6"), rec(25, 1, 1, "3 0 0"))
	findings, e := court.Findings(b, pleas())
	// The source of the third one is that of a finding of the case.
	want(t, "Findings", findings, e, []api.Finding{{Source: 20001, Plaint: 1, Day: 1, Known: 1, Amount: 100, Pays: 100}, {Source: 20004, Plaint: 2, Day: 2, Known: 1, Amount: 20}}, api.OK)
	findings, e = court.Findings(b, api.Case{})
	want(t, "Findings of no plaints", findings, e, nil, api.OK)
	full := pleas()
	for i := range 58 {
		full.Findings = append(full.Findings, api.Finding{Source: 30000 + i, Plaint: 1})
	}
	findings, e = court.Findings(b, full)
	want(t, "Findings of a full case", findings, e, []api.Finding{{Source: 20001, Plaint: 1, Day: 1, Known: 1, Amount: 100, Pays: 100}}, api.OK)
}

// badBooks are not valid.
func badBooks() []api.Book {
	gap := bookOf(rec(2, 1, 1, "7 1"), rec(2, 1, 1, "7 1"))
	gap.Records[1].At.No = 2
	twice := bookOf(rec(2, 1, 1, "7 1"), rec(2, 1, 1, "7 1"))
	twice.Records[1].At.No = 0
	var long []api.Record
	for range 61 {
		long = append(long, rec(2, 1, 1, "7 1"))
	}
	return []api.Book{
		gap, twice, bookOf(long...), bookOf(rec(41, 1, 1, "7 1")), bookOf(rec(-1, 1, 1, "")), bookOf(rec(2, -1, 1, "7 1")), bookOf(rec(2, 1, 100001, "7 1")), bookOf(rec(2, 1, 1, "7 ?")),
		bookOf(rec(2, 1, 1, "7 1"), withdrawn(1, 1)), {Records: []api.Record{{At: item(6, 0), Kind: 2}}}, {Records: []api.Record{{At: item(1, 0), Kind: 2}, {At: item(0, 0), Kind: 2}}},
	}
}

// P10.2: a book that is not valid has nothing, and goes ahead of a case that is not.
func TestBadBooks(t *testing.T) {
	bad := pleas()
	bad.Plaints[0].Sureties = []int{9}
	for i, b := range badBooks() {
		events, e := court.Events(b)
		want(t, fmt.Sprint("Events ", i), events, e, nil, api.ErrBook)
		deeds, e := court.Deeds(b)
		want(t, fmt.Sprint("Deeds ", i), deeds, e, nil, api.ErrBook)
		stays, e := court.Stays(b)
		want(t, fmt.Sprint("Stays ", i), stays, e, nil, api.ErrBook)
		notes, e := court.Notes(b)
		want(t, fmt.Sprint("Notes ", i), notes, e, nil, api.ErrBook)
		for _, c := range []api.Case{pleas(), bad} {
			findings, e := court.Findings(b, c)
			want(t, fmt.Sprint("Findings ", i), findings, e, nil, api.ErrBook)
		}
	}
	findings, e := court.Findings(bookOf(rec(25, 1, 1, "1 100 100")), bad)
	want(t, "Findings of a bad case", findings, e, nil, api.ErrCase)
	findings, e = court.Findings(api.Book{}, bad)
	want(t, "Findings of a bad case", findings, e, nil, api.ErrCase)
	wantBook(t, api.Book{})
}
