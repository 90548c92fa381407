package roll_test

import (
	"fmt"
	"math"
	"math/rand/v2"
	"slices"
	"testing"

	"pinfold/api"
	"pinfold/roll"
)

// P8.1: an office of a manor, with new rolls and without records.
func TestNewOffice(t *testing.T) {
	for me := range api.MaxManors {
		m, e := roll.NewOffice(me)
		want(t, "NewOffice", m, e, api.Office{Me: me}, api.OK)
	}
	for _, me := range outside(0, 5) {
		m, e := roll.NewOffice(me)
		want(t, "NewOffice", m, e, api.Office{}, api.ErrArg)
	}
}

// randomOffice has rolls of which any part is dry, and knows anything.
func randomOffice(x *rand.Rand, l []api.Record) api.Office {
	m := api.Office{Me: x.IntN(api.MaxManors), Rolls: randomRolls(x, l), Written: slices.Clone(l)}
	for h := range m.Known {
		for o := range m.Known[h] {
			m.Known[h][o] = pick(x, 0, x.IntN(api.MaxRecords+1))
		}
	}
	return m
}

// written is an office that has written one more record.
func written(m api.Office, r api.Record) api.Office {
	_, sum := retoldText(1, m.Written)
	line, _ := retoldLine(sum, r)
	m.Rolls.Main.Wet += line
	m.Written = append(slices.Clone(m.Written), r)
	return m
}

// sealed is an office whose rolls are dry.
func sealed(m api.Office) api.Office {
	dry := api.Roll{Dry: textOf(m.Written)}
	m.Rolls = api.Rolls{Main: dry, Copy: dry}
	return m
}

// P8.1: Note writes the next record of the office's own, whatever its item was.
func TestNote(t *testing.T) {
	each(400, func(x *rand.Rand, l []api.Record) {
		m := randomOffice(x, l)
		r := more(x, l, 1, m.Me)[0]
		for _, item := range []api.Item{r.At, at(0, 0), at(5, 9999), at(-1, -1), at(math.MaxInt, math.MinInt), at(m.Me, 0)} {
			got, e := two(roll.Note(m, changed(r, func(r *api.Record) { r.At = item })))
			want(t, fmt.Sprint("Note ", m, r), got, e, pair[api.Office, api.Record]{written(m, r), r}, api.OK)
		}
	})
}

// P8.1: the errors of Note; what a withdrawal may name depends on the item that it gets.
func TestNoteErrors(t *testing.T) {
	m := officeOf(3, plains(3, 0, 3), nil)
	for _, r := range badRecords() {
		r.At = at(3, 2)
		if roll.CheckRecord(r) != api.OK {
			got, e := two(roll.Note(m, r))
			want(t, fmt.Sprintf("Note %.300v", r), got, e, pair[api.Office, api.Record]{}, api.ErrRecord)
		}
	}
	for of, wanted := range map[api.Item]api.Errno{at(3, 0): api.OK, at(3, 1): api.OK, at(3, 2): api.ErrRecord, at(3, 3): api.ErrRecord, at(0, 0): api.ErrRecord, at(3, -1): api.ErrRecord} {
		r := api.Record{At: at(3, 9), Known: 5, Of: of}
		got, e := two(roll.Note(m, r))
		if r.At.No = 2; wanted == api.OK {
			want(t, fmt.Sprint("Note ", r), got, e, pair[api.Office, api.Record]{written(m, r), r}, api.OK)
		} else {
			want(t, fmt.Sprint("Note ", r), got, e, pair[api.Office, api.Record]{}, wanted)
		}
	}
	got, e := two(roll.Note(fullOffice(), plain(2, 0)))
	want(t, "Note in a full office", got, e, pair[api.Office, api.Record]{}, api.ErrLong)
	got, e = two(roll.Note(fullOffice(), api.Record{Kind: 41}))
	want(t, "Note in a full office", got, e, pair[api.Office, api.Record]{}, api.ErrRecord)
}

// P8.1: Ask seals, and says how many records of each manor there are.
func TestAsk(t *testing.T) {
	each(400, func(x *rand.Rand, l []api.Record) {
		m := randomOffice(x, l)
		for to := range api.MaxManors {
			got, e := two(roll.Ask(m, to))
			if to == m.Me {
				want(t, "Ask itself", got, e, pair[api.Office, api.Letter]{}, api.ErrArg)
			} else {
				want(t, fmt.Sprint("Ask ", m, to), got, e, pair[api.Office, api.Letter]{sealed(m), api.Letter{From: m.Me, To: to, Asks: true, Have: retoldHave(l)}}, api.OK)
			}
		}
		for _, to := range outside(0, 5) {
			got, e := two(roll.Ask(m, to))
			want(t, fmt.Sprint("Ask ", to), got, e, pair[api.Office, api.Letter]{}, api.ErrArg)
		}
	})
}

// randomLetter is to an office: of records that this has, or that come next, too early, or again.
func randomLetter(x *rand.Rand, m api.Office) api.Letter {
	y := api.Letter{From: (m.Me + 1 + x.IntN(5)) % api.MaxManors, To: m.Me, Asks: x.IntN(2) == 0}
	for manor := range y.Have {
		y.Have[manor] = pick(x, 0, x.IntN(6), x.IntN(api.MaxRecords+1))
	}
	may := slices.Concat(m.Written, more(x, m.Written, 4, 0, 1, 4))
	for range x.IntN(api.MaxCarry + 1) {
		y.Records = append(y.Records, pick(x, may...))
	}
	return y
}

// retoldReceive is an office that has received a letter, and what it answers.
func retoldReceive(m api.Office, x api.Letter) (api.Office, []api.Letter) {
	k := ledger{me: m.Me, dry: m.Written, known: m.Known}
	letters, _ := k.receive(x)
	return k.office(), letters
}

// P8.1: Receive of any letter by any office is as the chapter tells it.
func TestReceive(t *testing.T) {
	fresh, early, answers := 0, 0, 0
	each(2500, func(x *rand.Rand, l []api.Record) {
		m := randomOffice(x, l)
		y := randomLetter(x, m)
		office, letters := retoldReceive(m, y)
		got, e := two(roll.Receive(m, y))
		want(t, fmt.Sprint("Receive ", m, y), got, e, pair[api.Office, []api.Letter]{office, letters}, api.OK)
		fresh += len(office.Written) - len(l)
		early += len(y.Records)
		answers += len(letters)
	})
	if fresh < 1000 || early < 3000 || answers < 1000 {
		t.Error("too little happens: ", fresh, early, answers)
	}
}

// P8.1: a letter brings what comes next at its time; what comes too early is passed over, also if it would come next at the end.
func TestReceiveInOrder(t *testing.T) {
	m := officeOf(0, plains(1), nil)
	for i, c := range []struct {
		records []api.Record
		wanted  []api.Record
	}{
		{[]api.Record{plain(1, 1), plain(1, 2)}, plains(1, 1, 1)},
		{[]api.Record{plain(1, 2), plain(1, 1)}, plains(1, 1)},
		{[]api.Record{plain(1, 0), plain(1, 0)}, plains(1)},
		{[]api.Record{plain(1, 1), plain(1, 1), plain(2, 0)}, plains(1, 1, 2)},
		{[]api.Record{plain(3, 0), plain(1, 5), plain(0, 0), plain(3, 1)}, plains(1, 3, 0, 3)},
		{[]api.Record{plain(5, 9999)}, plains(1)},
	} {
		x := api.Letter{From: 4, To: 0, Records: c.records}
		office := sealed(api.Office{Written: c.wanted})
		var letters []api.Letter
		if len(c.wanted) > 1 {
			letters = []api.Letter{{From: 0, To: 4, Asks: true, Have: retoldHave(c.wanted)}}
		}
		got, e := two(roll.Receive(m, x))
		want(t, fmt.Sprint("Receive ", i), got, e, pair[api.Office, []api.Letter]{office, letters}, api.OK)
	}
}

// P8.1: with an error nothing of a letter is taken; the first record that has one decides.
func TestReceiveErrors(t *testing.T) {
	m := officeOf(0, plains(1, 2), plains(1)[:0])
	other, fresh := others(plain(1, 0))[0], plain(1, 1)
	full := changed(fullOffice(), func(m *api.Office) { m.Me = 0 })
	for i, c := range []struct {
		m       api.Office
		records []api.Record
		wanted  api.Errno
	}{
		{m, []api.Record{other}, api.ErrDiffer}, {m, []api.Record{fresh, other}, api.ErrDiffer}, {m, []api.Record{plain(3, 0), others(plain(3, 0))[0]}, api.ErrDiffer},
		{m, []api.Record{fresh, plain(3, 1), others(plain(2, 0))[0], plain(3, 0)}, api.ErrDiffer},
		{full, []api.Record{plain(1, 10)}, api.ErrLong}, {full, []api.Record{plain(1, 9), plain(5, 10)}, api.ErrLong}, {full, []api.Record{plain(1, 9), plain(1, 11)}, api.OK},
		{full, []api.Record{plain(1, 10), other}, api.ErrLong}, {full, []api.Record{other, plain(1, 10)}, api.ErrDiffer}, {full, []api.Record{plain(1, 11), others(plain(0, 9))[0]}, api.ErrDiffer},
	} {
		for _, asks := range []bool{false, true} {
			got, e := two(roll.Receive(c.m, api.Letter{From: 4, To: 0, Asks: asks, Records: c.records}))
			if c.wanted != api.OK {
				want(t, fmt.Sprint("Receive ", i), got, e, pair[api.Office, []api.Letter]{}, c.wanted)
			} else {
				wantErrno(t, fmt.Sprint("Receive ", i), e, api.OK)
			}
		}
	}
	almost := officeOf(0, full.Written[:58], nil)
	for n, wanted := range map[int]api.Errno{1: api.OK, 2: api.OK, 3: api.ErrLong} {
		_, _, e := roll.Receive(almost, api.Letter{From: 4, Records: []api.Record{plain(4, 9), plain(5, 9), plain(1, 10)}[:n]})
		wantErrno(t, fmt.Sprint("Receive ", n), e, wanted)
	}
}

// P8.1: an answer has the first records, by their items, that the other one has not, and no more than a letter carries.
func TestAnswers(t *testing.T) {
	m := officeOf(0, plains(5, 3, 3, 0, 1, 5, 0, 4), nil)
	for i, c := range []struct {
		have    [6]int
		records []api.Record
	}{
		{[6]int{}, []api.Record{plain(0, 0), plain(0, 1), plain(1, 0), plain(3, 0), plain(3, 1), plain(4, 0)}},
		{[6]int{1, 1}, []api.Record{plain(0, 1), plain(3, 0), plain(3, 1), plain(4, 0), plain(5, 0), plain(5, 1)}},
		{[6]int{1, 1, 9, 1}, []api.Record{plain(0, 1), plain(3, 1), plain(4, 0), plain(5, 0), plain(5, 1)}},
		{[6]int{60, 60, 60, 60, 60, 1}, []api.Record{plain(5, 1)}},
		{[6]int{2, 1, 0, 2, 1, 2}, nil},
	} {
		x := api.Letter{From: 4, Asks: true, Have: c.have}
		office := changed(m, func(m *api.Office) { m.Known[4] = c.have })
		got, e := two(roll.Receive(m, x))
		want(t, fmt.Sprint("Receive ", i), got, e, pair[api.Office, []api.Letter]{office, []api.Letter{{From: 0, To: 4, Have: retoldHave(m.Written), Records: c.records}}}, api.OK)
		x.Asks = false
		got, e = two(roll.Receive(m, x))
		want(t, fmt.Sprint("Receive ", i), got, e, pair[api.Office, []api.Letter]{office, nil}, api.OK)
	}
}

// P8.1: what an office knows another one to have never gets less by a letter.
func TestKnown(t *testing.T) {
	m, _ := roll.NewOffice(1)
	for _, c := range []struct {
		from         int
		have, wanted [6]int
	}{
		{2, [6]int{3, 0, 60}, [6]int{3, 0, 60}}, {2, [6]int{1, 2, 0, 4}, [6]int{3, 2, 60, 4}}, {0, [6]int{0, 0, 0, 0, 0, 7}, [6]int{0, 0, 0, 0, 0, 7}}, {2, [6]int{}, [6]int{3, 2, 60, 4}},
	} {
		next, _, e := roll.Receive(m, api.Letter{From: c.from, To: 1, Have: c.have})
		m.Known[c.from] = c.wanted
		want(t, "Receive", next, e, m, api.OK)
		m = next
	}
}

// P8.1: Restart tears, burns by the seventh pick, and opens; what was known of others is forgotten.
func TestRestart(t *testing.T) {
	lost := 0
	each(2000, func(x *rand.Rand, l []api.Record) {
		m, picks := randomOffice(x, l), randomPicks(x)
		r := roll.Tear(m.Rolls, picks)
		if len(picks) > 0 {
			switch retoldModulo(picks[6%len(picks)], 3) {
			case 1:
				r.Main = api.Roll{}
			case 2:
				r.Copy = api.Roll{}
			}
		}
		rolls, records := roll.Open(r)
		got, e := roll.Restart(m, picks)
		want(t, fmt.Sprint("Restart ", m, picks), got, e, api.Office{Me: m.Me, Rolls: rolls, Written: records}, api.OK)
		lost += len(l) - len(records)
	})
	if lost < 2000 {
		t.Error("too few records are lost: ", lost)
	}
}

// P8.1: the seventh pick chooses what burns.
func TestFires(t *testing.T) {
	l := plains(0, 1, 2)
	m := officeOf(0, l[:2], l[2:])
	whole := len(m.Rolls.Main.Wet)
	m.Rolls.Copy.Dry = textOf(l[:1])
	for _, c := range []struct {
		picks []int
		want  []api.Record
	}{
		{[]int{whole, 0, 0, 0, 0, 0, 0}, l}, {[]int{whole, 0, 0, 0, 0, 0, 1}, l[:1]}, {[]int{whole, 0, 0, 0, 0, 0, 2}, l}, {[]int{whole, 0, 0, 0, 0, 0, 3}, l}, {[]int{whole, 0, 0, 0, 0, 0, 4}, l[:1]},
		{[]int{whole, 0, 0, 0, 0, 0, -1}, l}, {[]int{whole, 0, 0, 0, 0, 0, -2}, l[:1]}, {[]int{whole, 0, 0, 0, 0, 0, -3}, l}, {nil, l[:2]}, {[]int{0}, l[:2]}, {[]int{3, 0, 0}, l[:2]}, {[]int{1}, l[:1]},
		{[]int{whole + 1, 0, 0, 1}, l[:2]}, {[]int{0, 0, 0, 0, 1}, l[:2]}, {[]int{1, 0, 0, 0, 0, 0}, l[:1]}, {[]int{2, 0, 0, 0, 0, 0}, l[:2]}, {[]int{0, 0, 0, 0, 0, 0, 0, 1}, l[:2]},
	} {
		got, e := roll.Restart(m, c.picks)
		want(t, fmt.Sprint("Restart ", c.picks), got, e, sealed(api.Office{Written: c.want}), api.OK)
	}
}
