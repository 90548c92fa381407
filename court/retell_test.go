package court_test

import (
	"cmp"
	"regexp"
	"slices"
	"strconv"
	"strings"

	"pinfold/api"
	"pinfold/herd"
	"pinfold/mark"
	"pinfold/plaint"
	"pinfold/roll"
	"pinfold/stint"
)

// This file retells the chapter plainly: its language, what is in a book, and drives.

var (
	commandNumber = regexp.MustCompile(`^(0|-?[1-9][0-9]*)$`)
	recordNumbers = regexp.MustCompile(`^(0|[1-9][0-9]{0,8})( (0|[1-9][0-9]{0,8}))*$`)
	spaces        = regexp.MustCompile(` +`)
)

func retoldSaysNothing(line string) bool {
	return line == "" || line[0] == '#' || strings.Trim(line, " ") == ""
}

func retoldParse(line string) (results[api.Command, int], api.Errno) {
	none := func(n int, e api.Errno) (results[api.Command, int], api.Errno) {
		return results[api.Command, int]{B: n}, e
	}
	if len(line) > 200 {
		return none(0, api.ErrLong)
	}
	if retoldSaysNothing(line) {
		return none(0, api.ErrWords)
	}
	words := spaces.Split(strings.Trim(line, " "), -1)
	p, ok := phraseOf(words[0])
	if !ok {
		return none(0, api.ErrWords)
	}
	c := api.Command{Kind: p.kind}
	for i := range p.numbers {
		if len(words) == 1+i || !commandNumber.MatchString(words[1+i]) || len(words[1+i]) > 11 {
			return none(1+i, api.ErrWords)
		}
		n, _ := strconv.Atoi(words[1+i])
		if n > 1000000000 || n < -1000000000 {
			return none(1+i, api.ErrWords)
		}
		c.Args = append(c.Args, n)
	}
	if len(words) > 1+len(p.numbers) {
		return none(1+len(p.numbers), api.ErrWords)
	}
	return results[api.Command, int]{A: c}, api.OK
}

// retoldNumbers are those of a record's Text, if there are so many, and it has the right form.
func retoldNumbers(text string, many int) []int {
	if !recordNumbers.MatchString(text) {
		return nil
	}
	var l []int
	for _, word := range strings.Split(text, " ") {
		n, _ := strconv.Atoi(word)
		l = append(l, n)
	}
	if len(l) != many {
		return nil
	}
	return l
}

// retoldEvent is the event with a kind that has these numbers; of another kind, or with another count of them, it is not valid.
func retoldEvent(x api.Event, n []int) api.Event {
	many := map[int]int{1: 4, 2: 2, 3: 2, 4: 7, 5: 2, 6: 1}
	if len(n) != many[x.Kind] {
		return api.Event{Kind: -1}
	}
	switch x.Kind {
	case 1:
		x.Beast, x.Sort, x.Owner, x.Dam = n[0], n[1], n[2], n[3]
	case 2:
		x.Beast, x.Sort = n[0], n[1]
	case 3, 5:
		x.Beast, x.Owner = n[0], n[1]
	case 4:
		x.Beast, x.Seen = n[0], api.Reading(n[1:])
	case 6:
		x.Beast = n[0]
	}
	return x
}

func retoldEvents(l []api.Record) []api.Event {
	var events []api.Event
	many := map[int]int{1: 4, 2: 2, 3: 2, 4: 7, 5: 2, 6: 1}
	for _, r := range l {
		x := retoldEvent(api.Event{At: r.At, Kind: r.Kind, Day: r.Day, Known: r.Known, Of: r.Of}, retoldNumbers(r.Text, many[r.Kind]))
		if herd.CheckEvent(x) == api.OK {
			events = append(events, x)
		}
	}
	return events
}

// retoldDeed is the deed with a kind that has these numbers, likewise.
func retoldDeed(x api.Deed, n []int) api.Deed {
	many := map[int]int{1: 2, 2: 3, 3: 2, 4: 4, 5: 2, 6: 5, 7: 2, 8: 2}
	if len(n) != many[x.Kind] || len(n) == 0 {
		return api.Deed{Kind: -1}
	}
	switch x.Kind {
	case 1, 3:
		x.Holding, x.Owner = n[0], n[1]
	case 2:
		x.Holding, x.Pasture, x.Parts = n[0], n[1], n[2]
	case 4:
		x.Holding, x.To, x.Pasture, x.Parts = n[0], n[1], n[2], n[3]
	case 5:
		x.Holding, x.To = n[0], n[1]
	case 6:
		x.Holding, x.To, x.Pasture, x.Parts, x.Until = n[0], n[1], n[2], n[3], n[4]
	case 7, 8:
		x.Pasture, x.Until = n[0], n[1]
	}
	return x
}

func retoldDeeds(l []api.Record) []api.Deed {
	var deeds []api.Deed
	many := map[int]int{11: 2, 12: 3, 13: 2, 14: 4, 15: 2, 16: 5, 17: 2, 18: 2}
	for _, r := range l {
		x := retoldDeed(api.Deed{At: r.At, Kind: r.Kind - 10, Day: r.Day, Known: r.Known}, retoldNumbers(r.Text, many[r.Kind]))
		if r.Kind == 0 {
			x = api.Deed{At: r.At, Known: r.Known, Of: r.Of}
		}
		if stint.CheckDeed(x) == api.OK {
			deeds = append(deeds, x)
		}
	}
	return deeds
}

func retoldSource(at api.Item) int { return 10000*at.Manor + at.No + 1 }

// retoldUntil is the Known of the first record that withdraws another one; -1 if there is none.
func retoldUntil(l []api.Record, of api.Item) int {
	for _, r := range l {
		if r.Kind == 0 && r.Of == of {
			return r.Known
		}
	}
	return -1
}

// retoldValidStay and retoldValidNote tell what chapter 6 says of those that nothing withdraws.
func retoldValidStay(s api.Held) bool {
	return s.Beast >= 1 && s.Beast <= 9999 && s.Sort >= 1 && s.Sort <= 9 && s.Eats >= 0 && s.Eats <= 100 && s.Worth >= 0 && s.Worth <= 100000 &&
		s.Driver >= 0 && s.Driver <= 99 && s.Day >= 0 && s.Day <= 100000 && s.Known >= 0 && s.Known <= 100000
}

func retoldValidNote(n api.Note) bool {
	owner := n.Owner >= 1 && n.Owner <= 99
	if n.Kind == api.Freed {
		owner = n.Owner == 0
	}
	return owner && n.Stay >= 1 && n.Stay <= 99999 && n.Day >= 0 && n.Day <= 100000 && n.Known >= 0 && n.Known <= 100000
}

func retoldStays(l []api.Record) []api.Held {
	var stays []api.Held
	for _, r := range l {
		n := retoldNumbers(r.Text, 5)
		if r.Kind != 21 || n == nil {
			continue
		}
		s := api.Held{Source: retoldSource(r.At), Beast: n[0], Sort: n[1], Eats: n[2], Worth: n[3], Driver: n[4], Day: r.Day, Known: r.Known}
		until := retoldUntil(l, r.At)
		if retoldValidStay(s) && (until == -1 || until > r.Known) {
			s.Until = max(until, 0)
			stays = append(stays, s)
		}
	}
	return stays
}

func retoldNotes(l []api.Record) []api.Note {
	var notes []api.Note
	for _, r := range l {
		kinds := map[int]int{22: api.Claimed, 23: api.Freed, 24: api.Judged}
		x := api.Note{Source: retoldSource(r.At), Kind: kinds[r.Kind], Day: r.Day, Known: r.Known}
		switch n := retoldNumbers(r.Text, 2); {
		case (r.Kind == 22 || r.Kind == 24) && n != nil:
			x.Stay, x.Owner = n[0], n[1]
		case r.Kind == 23 && retoldNumbers(r.Text, 1) != nil:
			x.Stay = retoldNumbers(r.Text, 1)[0]
		default:
			continue
		}
		until := retoldUntil(l, r.At)
		if retoldValidNote(x) && (until == -1 || until > r.Known) {
			x.Until = max(until, 0)
			notes = append(notes, x)
		}
	}
	return notes
}

// retoldFindings are those that a case takes, one after the other.
func retoldFindings(l []api.Record, c api.Case) []api.Finding {
	var taken []api.Finding
	for _, r := range l {
		n := retoldNumbers(r.Text, 3)
		if r.Kind != 25 || n == nil {
			continue
		}
		f := api.Finding{Source: retoldSource(r.At), Plaint: n[0], Amount: n[1], Pays: n[2], Day: r.Day, Known: r.Known}
		if next, e := plaint.Find(c, f); e == api.OK {
			c, taken = next, append(taken, f)
		}
	}
	return taken
}

// retoldBook is the book of what was written.
func retoldBook(written []api.Record) []api.Record {
	return slices.SortedFunc(slices.Values(written), func(a, b api.Record) int {
		return cmp.Or(a.At.Manor-b.At.Manor, a.At.No-b.At.No)
	})
}

// retoldCounts asks for each owner and each sort, as the chapter tells it.
func retoldCounts(m api.Marks, l []api.Event, beasts []int, day, known int) (api.Drive, api.Errno) {
	different := map[int]bool{}
	bad := false
	for _, no := range beasts {
		different[no] = true
		bad = bad || no < 1 || no > 9999
	}
	switch {
	case mark.Check(m) != api.OK:
		return api.Drive{}, api.ErrMarks
	case herd.Check(l) != api.OK:
		return api.Drive{}, api.ErrEvents
	case known < 0 || known > 100000 || day < 0 || day > 100000:
		return api.Drive{}, api.ErrDay
	case bad:
		return api.Drive{}, api.ErrArg
	case len(different) > 40:
		return api.Drive{}, api.ErrLong
	}
	var d api.Drive
	mayBe := map[[2]int]int{}
	alive, _ := herd.Alive(l, day, known)
	for no := 1; no <= 9999; no++ {
		if !different[no] || !slices.Contains(alive, no) {
			continue
		}
		b, _ := herd.Beast(l, no, known)
		held, _ := herd.Held(l, no, day, known)
		owners := []int{held}
		if held == 0 {
			owners, _ = herd.Bearers(m, l, no, known)
		}
		if len(owners) == 0 || len(owners) > 8 {
			continue
		}
		d.Beasts = append(d.Beasts, api.Counted{Source: no, Beast: no, Sort: b.Sort, Owners: owners})
		for _, owner := range owners {
			if held == 0 {
				mayBe[[2]int{owner, b.Sort}]++
			}
		}
	}
	for owner := 1; owner <= 99; owner++ {
		for sort := 1; sort <= 9; sort++ {
			n, _ := herd.Count(l, owner, sort, day, known)
			if n += mayBe[[2]int{owner, sort}]; n != 0 {
				d.Stocks = append(d.Stocks, api.Stock{Owner: owner, Sort: sort, Most: n})
			}
		}
	}
	return d, api.OK
}

// validBook reports whether there is a book of records.
func validBook(b api.Book) bool { return roll.Check(b) == api.OK }
