package court_test

import (
	"cmp"
	"fmt"
	"slices"
	"strings"

	"pinfold/api"
	"pinfold/drive"
	"pinfold/fine"
	"pinfold/herd"
	"pinfold/march"
	"pinfold/mark"
	"pinfold/pen"
	"pinfold/plaint"
	"pinfold/roll"
	"pinfold/stint"
)

// A retold court does lines as the chapter tells it, plainly.
type retold struct {
	offices [6]api.Office
	pounds  [6]api.Pound
	s       api.Setting
	letters []api.Letter
	riders  []api.Rider
}

func newRetold() *retold {
	r := &retold{}
	for n := range 6 {
		r.offices[n], _ = roll.NewOffice(n)
		r.pounds[n], _ = march.New(n)
	}
	r.s.Marks.Wear = api.Wear{1, 2, 4, 8, 16}
	return r
}

// state has all that a court gives out, as stateOf has it.
func (r *retold) state() string {
	var l []any
	for n := range 6 {
		l = append(l, r.offices[n], r.pounds[n])
	}
	return fmt.Sprintf("%+v", append(l, r.s, r.letters, r.riders))
}

// do does a right command.
func (r *retold) do(word string, n []int) []string {
	p, _ := phraseOf(word)
	answer, e := []string(nil), api.ErrArg
	switch {
	case p.ofManor() && (n[0] < 0 || n[0] > 5):
	case p.kind < 20:
		e = r.setUp(word, n)
		answer = []string{"ok"}
	case p.kind < 50:
		answer, e = r.record(p, n)
	case p.kind < 60:
		answer, e = r.post(word, n)
	case p.kind < 70:
		answer, e = r.ride(word, n)
	case p.kind < 94:
		answer, e = r.ask(word, n)
	default:
		answer, e = r.askDues(word, n)
	}
	if e != api.OK {
		return []string{fmt.Sprintf("error %d", e)}
	}
	return answer
}

// replaced is a list with one more element instead of the one that has its key, by their keys.
func replaced[T any](l []T, x T, key func(x T) int) []T {
	more := []T{x}
	for _, y := range l {
		if key(y) != key(x) {
			more = append(more, y)
		}
	}
	slices.SortFunc(more, func(a, b T) int { return key(a) - key(b) })
	return more
}

// longer is ErrLong for what is too many.
func longer(many, most int) api.Errno {
	if many > most {
		return api.ErrLong
	}
	return api.OK
}

func (r *retold) setUp(word string, n []int) api.Errno {
	s, e := r.s, api.OK
	switch word {
	case "wear":
		s.Marks.Wear = api.Wear(n)
		e = mark.Check(s.Marks)
	case "false":
		s.Marks.False = n[0]
		e = mark.Check(s.Marks)
	case "mark":
		s.Marks, e = mark.Add(s.Marks, api.Given{Owner: n[0], Mark: api.Mark(n[1:])})
	case "unmark":
		s.Marks, e = mark.Take(s.Marks, n[0])
	case "give":
		s.Marks, e = mark.Give(s.Marks, n[0])
	case "pasture":
		p := api.Pasture{Id: n[0], Season: api.Range{Lo: n[1], Hi: n[2]}}
		s.Pastures = replaced(s.Pastures, p, func(p api.Pasture) int { return p.Id })
		e = cmp.Or(stint.CheckPasture(p), longer(len(s.Pastures), 8))
	case "byelaw":
		b := api.Byelaw{Source: n[0], Pasture: n[1], From: n[2]}
		for i, parts := range n[3:] {
			b.Parts[1+i] = parts
		}
		s.Byelaws = replaced(s.Byelaws, b, func(b api.Byelaw) int { return 10000000*b.Pasture + b.From })
		e = cmp.Or(stint.CheckByelaw(b), longer(len(s.Byelaws), 20))
	case "tariff":
		x := api.Tariff{From: n[0], Feed: n[1], Hayward: n[2], Driver: n[3]}
		s.Tariffs = replaced(s.Tariffs, x, func(x api.Tariff) int { return x.From })
		e = cmp.Or(fine.CheckTariff(x), longer(len(s.Tariffs), 8))
	case "rate":
		i := slices.IndexFunc(s.Tariffs, func(x api.Tariff) bool { return x.From == n[0] })
		switch {
		case i < 0:
			e = api.ErrNone
		case n[1] < 1 || n[1] > 9:
			e = api.ErrArg
		default:
			s.Tariffs = slices.Clone(s.Tariffs)
			s.Tariffs[i].Head[n[1]] = n[2]
			s.Tariffs[i].Daily[n[1]] = n[3]
			e = fine.CheckTariff(s.Tariffs[i])
		}
	default:
		e = setUpBeasts(&s, word, n)
	}
	if e == api.OK {
		r.s = s
	}
	return e
}

// setUpBeasts sets up what is about beasts, and the sureties that stand for them.
func setUpBeasts(s *api.Setting, word string, n []int) api.Errno {
	e := api.OK
	switch word {
	case "pen":
		s.Yard.Pens = append(slices.Clone(s.Yard.Pens), n[0])
		e = pen.CheckYard(s.Yard)
	case "kind":
		k := api.Kind{Sort: n[0], Room: n[1], Eats: n[2], Apart: n[3]}
		s.Yard.Kinds = replaced(s.Yard.Kinds, k, func(k api.Kind) int { return k.Sort })
		e = pen.CheckYard(s.Yard)
	case "sort":
		s.Sorts = append(slices.Clone(s.Sorts), n[0])
		e = longer(len(s.Sorts), 8)
	case "surety":
		x := api.Surety{Id: n[0], Worth: api.Range{Lo: n[1], Hi: n[2]}}
		s.Sureties = replaced(s.Sureties, x, func(x api.Surety) int { return x.Id })
		e = cmp.Or(plaint.CheckSurety(x), longer(len(s.Sureties), 8))
	case "plaint":
		p := api.Plaint{Id: n[0], Owner: n[1], Beasts: n[6:7], Claim: api.Range{Lo: n[2], Hi: n[3]}, Day: n[4], Known: n[5], Sureties: n[7:]}
		var c api.Case
		c, e = plaint.Plead(api.Case{Plaints: s.Plaints, Sureties: s.Sureties}, p)
		s.Plaints = c.Plaints
	case "names", "backs":
		i := slices.IndexFunc(s.Plaints, func(p api.Plaint) bool { return p.Id == n[0] })
		if i < 0 {
			return api.ErrNone
		}
		s.Plaints = slices.Clone(s.Plaints)
		p := &s.Plaints[i]
		l := map[string]*[]int{"names": &p.Beasts, "backs": &p.Sureties}[word]
		if slices.Contains(*l, n[1]) {
			return api.ErrArg
		}
		*l = slices.Sorted(slices.Values(append(slices.Clone(*l), n[1])))
		e = plaint.Check(api.Case{Plaints: s.Plaints, Sureties: s.Sureties})
	case "counted":
		if n[0] < 1 || n[0] > 9999 || slices.Contains(s.Counted, n[0]) {
			return api.ErrArg
		}
		s.Counted = slices.Sorted(slices.Values(append(slices.Clone(s.Counted), n[0])))
		e = longer(len(s.Counted), 40)
	case "clear":
		s.Sorts, s.Counted = nil, nil
	}
	return e
}

// record writes a record, if what it says is right.
func (r *retold) record(p phrase, n []int) ([]string, api.Errno) {
	m := r.offices[n[0]]
	no := 0
	for _, x := range m.Written {
		if x.At.Manor == n[0] {
			no++
		}
	}
	at := api.Item{Manor: n[0], No: no}
	x := api.Record{Kind: p.kind - 20, Day: n[1], Known: n[2]}
	var e api.Errno
	if p.word == "withdraw" {
		x = api.Record{Known: n[1], Of: api.Item{Manor: n[0], No: n[2]}}
		e = retoldWithdraw(m.Written, x.Of)
	} else {
		x.Text = strings.Trim(fmt.Sprint(n[3:]), "[]")
		e = retoldCheck(at, x, n[3:])
	}
	if e != api.OK {
		return nil, e
	}
	m, x, e = roll.Note(m, x)
	if e != api.OK {
		return nil, e
	}
	r.offices[n[0]] = m
	return []string{fmt.Sprintf("record %d %d", x.At.Manor, x.At.No)}, api.OK
}

// retoldCheck is the error of what a record says.
func retoldCheck(at api.Item, x api.Record, n []int) api.Errno {
	source := retoldSource(at)
	switch {
	case x.Kind <= 6:
		return herd.CheckEvent(retoldEvent(api.Event{At: at, Kind: x.Kind, Day: x.Day, Known: x.Known}, n))
	case x.Kind <= 18:
		return stint.CheckDeed(retoldDeed(api.Deed{At: at, Kind: x.Kind - 10, Day: x.Day, Known: x.Known}, n))
	case x.Kind == 21:
		return fine.CheckHeld(api.Held{Source: source, Beast: n[0], Sort: n[1], Eats: n[2], Worth: n[3], Driver: n[4], Day: x.Day, Known: x.Known})
	case x.Kind == 23:
		return fine.CheckNote(api.Note{Source: source, Stay: n[0], Kind: api.Freed, Day: x.Day, Known: x.Known})
	case x.Kind <= 24:
		kind := map[int]int{22: api.Claimed, 24: api.Judged}[x.Kind]
		return fine.CheckNote(api.Note{Source: source, Stay: n[0], Owner: n[1], Kind: kind, Day: x.Day, Known: x.Known})
	}
	return plaint.CheckFinding(api.Finding{Source: source, Plaint: n[0], Amount: n[1], Pays: n[2], Day: x.Day, Known: x.Known})
}

func retoldWithdraw(l []api.Record, of api.Item) api.Errno {
	kinds := map[api.Item]int{}
	for _, r := range l {
		kinds[r.At] = r.Kind
	}
	kind, ok := kinds[of]
	switch {
	case !ok:
		return api.ErrNone
	case kind == 0 || kind == 25 || retoldUntil(l, of) >= 0:
		return api.ErrArg
	}
	return api.OK
}

// index is that of a number modulo how many there are.
func index(n, many int) int { return ((n % many) + many) % many }

func (r *retold) post(word string, n []int) ([]string, api.Errno) {
	if word == "ask" {
		m, x, e := roll.Ask(r.offices[n[0]], n[1])
		if e = cmp.Or(e, longer(len(r.letters)+1, 40)); e != api.OK {
			return nil, e
		}
		r.offices[n[0]], r.letters = m, append(r.letters, x)
	} else if word == "restart" {
		m, e := roll.Restart(r.offices[n[0]], []int{n[1], n[2], n[3], 0, 0, 0, n[4]})
		r.offices[n[0]] = m
		return []string{fmt.Sprint("records ", len(m.Written))}, e
	} else if len(r.letters) == 0 {
		return nil, api.ErrNone
	} else {
		i := index(n[0], len(r.letters))
		x := r.letters[i]
		if word == "double" {
			if len(r.letters) == 40 {
				return nil, api.ErrLong
			}
			r.letters = append(r.letters, x)
		} else {
			r.letters = append(slices.Clone(r.letters[:i]), r.letters[i+1:]...)
		}
		if word == "deliver" {
			m, more, e := roll.Receive(r.offices[x.To], x)
			if e != api.OK {
				return nil, e
			}
			r.offices[x.To], r.letters = m, append(r.letters, more...)
		}
	}
	return []string{fmt.Sprint("letters ", len(r.letters))}, api.OK
}

func (r *retold) ride(word string, n []int) ([]string, api.Errno) {
	riders := func() []string { return []string{fmt.Sprint("riders ", len(r.riders))} }
	switch word {
	case "out":
		l, e := march.Out(r.pounds[n[0]], n[1])
		if e = cmp.Or(e, longer(len(r.riders)+len(l), 40)); e != api.OK {
			return nil, e
		}
		r.riders = append(slices.Clone(r.riders), l...)
		return riders(), api.OK
	case "hear", "drop":
		if len(r.riders) == 0 {
			return nil, api.ErrNone
		}
		i := index(n[0], len(r.riders))
		x := r.riders[i]
		r.riders = append(slices.Clone(r.riders[:i]), r.riders[i+1:]...)
		if word == "hear" {
			p, e := march.Hear(r.pounds[x.To], x)
			if e != api.OK {
				return nil, e
			}
			r.pounds[x.To] = p
		}
		return riders(), api.OK
	}
	p, e := r.pounds[n[0]], api.OK
	answer := []string{"ok"}
	switch word {
	case "impound":
		p, e = march.Impound(p, n[1])
	case "release":
		p, e = march.Release(p, n[1])
	case "send":
		var x api.Ride
		p, x, e = march.Send(p, n[1], n[2])
		answer = []string{fmt.Sprint("ride ", x.No)}
	case "call":
		p, e = march.Call(p, n[1])
	case "dry":
		p, e = march.Sync(p)
	case "wreck":
		p, e = march.Crash(p, n[1])
	}
	if e == api.OK {
		r.pounds[n[0]] = p
	}
	return answer, e
}

// listed is a list of numbers as it is told.
func listed(l []int, e api.Errno) ([]string, api.Errno) {
	if len(l) == 0 {
		return []string{"none"}, e
	}
	return []string{strings.Trim(fmt.Sprint(l), "[]")}, e
}

func number(n int, e api.Errno) ([]string, api.Errno) { return listed([]int{n}, e) }

func judged(n int, e api.Errno) ([]string, api.Errno) {
	return []string{map[int]string{0: "no", 1: "yes", 2: "maybe"}[n]}, e
}

// many are lines, or one that says that there are none.
func many(l [][]int, e api.Errno) ([]string, api.Errno) {
	if len(l) == 0 {
		return []string{"none"}, e
	}
	var lines []string
	for _, numbers := range l {
		line, _ := listed(numbers, e)
		lines = append(lines, line...)
	}
	return lines, e
}

func yesNo(is bool) int { return map[bool]int{true: 1}[is] }

// book is that of a command's manor.
func (r *retold) book(n []int) []api.Record { return retoldBook(r.offices[n[0]].Written) }

func (r *retold) drive(n []int, day, known int) (api.Drive, api.Errno) {
	return retoldCounts(r.s.Marks, retoldEvents(r.book(n)), r.s.Counted, day, known)
}

func (r *retold) ask(word string, n []int) ([]string, api.Errno) {
	m, y := r.s.Marks, r.s.Yard
	switch word {
	case "reads":
		return listed(mark.Owners(m, api.Reading(n)))
	case "look":
		return listed(mark.Look(m, api.Reading(n)))
	case "next":
		x, e := mark.Next(m)
		return listed(x[:], e)
	case "place":
		return listed(pen.Place(y, r.s.Sorts))
	case "fewest":
		return listed(pen.Fewest(y, r.s.Sorts))
	case "refuse":
		x, e := pen.Refuse(y, r.s.Sorts)
		return listed(append([]int{x.Kind}, x.Beasts...), e)
	}
	l := retoldEvents(r.book(n))
	switch word {
	case "beast":
		b, e := herd.Beast(l, n[1], n[2])
		return listed([]int{b.Sort, b.Dam, b.Owner, b.Bearer, b.Born, b.Died, yesNo(b.Found)}, e)
	case "bearers":
		return listed(herd.Bearers(m, l, n[1], n[2]))
	case "wrong":
		return listed(herd.Wrong(m, l, n[1]))
	case "alive":
		return listed(herd.Alive(l, n[1], n[2]))
	case "moved":
		return listed(herd.Moved(m, l, api.Item{Manor: n[2], No: n[3]}, n[1]))
	}
	return r.askRights(word, n)
}

func (r *retold) askRights(word string, n []int) ([]string, api.Errno) {
	c := api.Common{Pastures: r.s.Pastures, Byelaws: r.s.Byelaws, Deeds: retoldDeeds(r.book(n))}
	w := api.When{Day: n[len(n)-2], Known: n[len(n)-1]}
	switch word {
	case "use":
		return number(stint.Use(c, n[1], n[2], w))
	case "total":
		return number(stint.Total(c, n[1], w))
	case "most":
		return number(stint.Most(c, n[1], n[2], n[3], w))
	}
	d, e := r.drive(n, w.Day, w.Known)
	if e != api.OK {
		return nil, e
	}
	switch word {
	case "count":
		x, e := drive.Count(d, n[1], n[2])
		return listed([]int{x.Lo, x.Hi}, e)
	case "prove":
		x, e := drive.Count(d, n[1], n[2])
		beasts, _ := drive.Prove(d, n[1], n[2])
		return []string{fmt.Sprint("bound ", x.Lo), line("proof", beasts...)}, e
	case "whose":
		return judged(drive.Whose(d, n[1], n[2]))
	}
	b, e := stint.InForce(c, n[2], w.Day)
	open, e2 := stint.Open(c, n[2], w)
	owned, e3 := stint.Owned(c, n[1], w)
	right := 0
	for _, holding := range owned {
		parts, _ := stint.Use(c, holding, n[2], w)
		right += parts * yesNo(open)
	}
	answer, e4 := judged(drive.Over(d, n[1], b.Parts, right))
	return answer, cmp.Or(e, e2, e3, e4)
}

func (r *retold) askDues(word string, n []int) ([]string, api.Errno) {
	switch word {
	case "where":
		return listed(march.Where(r.pounds[:], n[0]))
	case "riding":
		l, e := march.Riding(r.pounds[:], n[0])
		var lines [][]int
		for _, x := range l {
			lines = append(lines, []int{x.No, x.To, x.Beast, yesNo(x.Called)})
		}
		return many(lines, e)
	case "here":
		return listed(march.Here(r.pounds[n[0]]))
	case "records":
		var lines []string
		for _, m := range r.offices {
			lines = append(lines, fmt.Sprint("records ", len(m.Written)))
		}
		return lines, api.OK
	case "allowed", "refused", "short", "owed", "levies":
		return r.askPleas(word, n)
	}
	a := api.Account{Tariffs: r.s.Tariffs, Stays: retoldStays(r.book(n)), Notes: retoldNotes(r.book(n))}
	switch word {
	case "lot":
		x, e := fine.Lot(a, n[1], n[2])
		return listed([]int{x.Owner, x.Stop, x.End, x.Day}, e)
	case "charge":
		x, e := fine.Charged(a, n[1], n[2])
		return listed([]int{x.Head, x.Feed, x.Fine}, e)
	case "due":
		x, e := fine.Dues(a, n[1], n[2])
		return listed([]int{x.Payer, x.Hayward, x.Driver, x.Lord}, e)
	case "posts":
		l, e := fine.Posts(a, []int{n[1], n[2]})
		var lines [][]int
		for _, x := range l {
			lines = append(lines, []int{x.Day, x.Stay, x.From, x.To, x.Amount})
		}
		return many(lines, e)
	case "balance":
		return number(fine.Balance(a, []int{n[2], n[3]}, n[1]))
	}
	return listed(fine.Inside(a, n[1]))
}

func (r *retold) askPleas(word string, n []int) ([]string, api.Errno) {
	c := api.Case{Plaints: r.s.Plaints, Sureties: r.s.Sureties}
	c.Findings = retoldFindings(r.book(n), c)
	switch word {
	case "owed":
		return number(plaint.Owed(c, n[1], n[2], n[3]))
	case "levies":
		l, e := plaint.Levies(c, n[1])
		var lines [][]int
		for _, x := range l {
			lines = append(lines, []int{x.Known, x.Plaint, x.Surety, x.Amount})
		}
		return many(lines, e)
	case "allowed":
		return listed(plaint.Allowed(c, n[1]))
	case "refused":
		return listed(plaint.Refused(c, n[1]))
	}
	return listed(plaint.Short(c, n[1]))
}
