package roll_test

import (
	"fmt"
	"math/rand/v2"
	"slices"
	"testing"

	"pinfold/api"
	"pinfold/roll"
)

// A history is rolls that are made as offices make them, with what was written on them.
type history struct {
	rolls   api.Rolls
	written []api.Record
	sure    int // how many of these were there at the last Seal or Open
}

func (h *history) write(t *testing.T, r api.Record) {
	rolls, written, e := roll.Write(h.rolls, h.written, r)
	wantErrno(t, fmt.Sprint("Write ", h.written, r), e, api.OK)
	h.rolls, h.written = rolls, written
}

func (h *history) seal() { h.rolls, h.sure = roll.Seal(h.rolls), len(h.written) }

// burnt are rolls of which none is burnt, Main, or Copy.
func burnt(r api.Rolls, fire int) api.Rolls {
	switch fire {
	case 1:
		return roll.Burn(r, false)
	case 2:
		return roll.Burn(r, true)
	}
	return r
}

// wantKept opens rolls behind a storm and a fire, and wants all that is sure, and the first ones of those that were written since then.
func (h history) wantKept(t *testing.T, picks []int, fire int) (api.Rolls, []api.Record) {
	t.Helper()
	rolls, l := roll.Open(burnt(roll.Tear(h.rolls, picks), fire))
	if len(l) < h.sure || len(l) > len(h.written) || !slices.Equal(l, h.written[:len(l)]) {
		t.Error(h, picks, fire, l)
	}
	wantErrno(t, fmt.Sprint("CheckRolls ", h, picks, fire), roll.CheckRolls(rolls, l), api.OK)
	if rolls.Main != rolls.Copy || rolls.Main.Wet != "" {
		t.Error(h, picks, fire, rolls)
	}
	return rolls, l
}

func (h *history) restart(t *testing.T, picks []int, fire int) {
	h.rolls, h.written = h.wantKept(t, picks, fire)
	h.sure = len(h.written)
}

// P8.4: behind any history of writing, sealing, storms and fires no record is lost that was there at the last Seal or Open.
func TestStormAndFire(t *testing.T) {
	x := newRandom()
	restarts, kept := 0, 0
	for range 300 {
		var h history
		for range 30 {
			switch x.IntN(6) {
			case 0:
				h.seal()
			case 1:
				before := h.sure
				h.restart(t, randomPicks(x), x.IntN(3))
				restarts++
				kept += h.sure - before
			default:
				h.write(t, more(x, h.written, 1, 0, 1, 2, 4)[0])
			}
			wantErrno(t, fmt.Sprint("CheckRolls ", h), roll.CheckRolls(h.rolls, h.written), api.OK)
			h.wantKept(t, randomPicks(x), x.IntN(3))
		}
	}
	if restarts < 500 || kept < 200 {
		t.Error("too little happens: ", restarts, kept)
	}
}

// P8.4: all ways in which two lines tear and smudge, and what burns then: just the whole lines ahead of the smudge are kept.
func TestAllStorms(t *testing.T) {
	var h history
	h.write(t, plain(1, 0))
	h.write(t, plain(0, 0))
	h.seal()
	h.write(t, example())
	h.write(t, withdrawal(1, 1, 0, 3))
	wet := len(h.rolls.Main.Wet)
	first := len(textOf(h.written[:3])) - len(textOf(h.written[:2]))
	for stay := range wet + 1 {
		for smudged := -1; smudged < stay; smudged++ {
			whole, picks := stay, []int{stay, 0, 0, 0, 0, 0}
			if smudged >= 0 {
				whole, picks = smudged, []int{stay, 1, smudged, 0, 0, 0}
			}
			wanted := 2
			for _, length := range []int{first, wet} {
				if whole >= length {
					wanted++
				}
			}
			for fire, n := range []int{wanted, 2, wanted} {
				if _, l := h.wantKept(t, picks, fire); len(l) != n {
					t.Error(picks, fire, len(l), n)
				}
			}
		}
	}
}

// A network is offices, by their manors, with a ledger of each, and the letters under way.
type network struct {
	offices []api.Office
	ledgers []ledger
	letters []api.Letter
	long    int // how many letters brought too much
}

func newNetwork() *network {
	n := &network{}
	for me := range api.MaxManors {
		m, _ := roll.NewOffice(me)
		n.offices, n.ledgers = append(n.offices, m), append(n.ledgers, ledger{me: me})
	}
	return n
}

func (n *network) note(t *testing.T, me int, r api.Record) {
	m, got, e := roll.Note(n.offices[me], r)
	wanted, wantedE := n.ledgers[me].note(r)
	want(t, fmt.Sprint("Note ", n.offices[me], r), got, e, wanted, wantedE)
	if e == api.OK {
		n.offices[me] = m
	}
}

func (n *network) ask(t *testing.T, me, to int) {
	m, letter, e := roll.Ask(n.offices[me], to)
	want(t, fmt.Sprint("Ask ", n.offices[me], to), letter, e, n.ledgers[me].ask(to), api.OK)
	n.offices[me] = m
	n.letters = append(n.letters, letter)
}

// receive takes a letter under way, once more or for the last time.
func (n *network) receive(t *testing.T, i int, again bool) {
	x := n.letters[i]
	if !again {
		n.letters = slices.Delete(n.letters, i, i+1)
	}
	m, letters, e := roll.Receive(n.offices[x.To], x)
	wanted, wantedE := n.ledgers[x.To].receive(x)
	want(t, fmt.Sprint("Receive ", n.offices[x.To], x), letters, e, wanted, wantedE)
	switch e {
	case api.OK:
		n.offices[x.To] = m
		n.letters = append(n.letters, letters...)
	case api.ErrLong:
		n.long++
	default:
		t.Error("Receive ", n.offices[x.To], x, e)
	}
}

func (n *network) restart(t *testing.T, me int, picks []int) {
	m, e := roll.Restart(n.offices[me], picks)
	wantErrno(t, "Restart", e, api.OK)
	n.offices[me] = m
	n.ledgers[me].restart(picks)
}

// check wants each office to be that of its ledger, and what it knows of others to be so, whatever storms and fires they have.
func (n *network) check(t *testing.T, x *rand.Rand) {
	t.Helper()
	for me, m := range n.offices {
		want(t, "office", m, api.OK, n.ledgers[me].office(), api.OK)
	}
	for other, m := range n.offices {
		left, e := roll.Restart(m, randomPicks(x))
		wantErrno(t, "Restart", e, api.OK)
		have := retoldHave(left.Written)
		for me := range n.offices {
			for manor, known := range n.offices[me].Known[other] {
				if known > have[manor] {
					t.Error(me, " knows too much of ", other, ": ", known, have)
				}
			}
		}
	}
}

// step does anything: manors write, ask, and restart; letters come, come twice, or get lost, in any order.
func (n *network) step(t *testing.T, x *rand.Rand, manors int) {
	me, i := x.IntN(manors), 0
	if len(n.letters) > 0 {
		i = x.IntN(len(n.letters))
	}
	switch kind := x.IntN(20); {
	case kind < 6:
		n.note(t, me, randomRecord(x, at(me, x.IntN(4))))
	case kind < 9:
		n.ask(t, me, (me+1+x.IntN(manors-1))%manors)
	case kind < 10:
		n.restart(t, me, randomPicks(x))
	case len(n.letters) == 0:
	case kind < 11:
		n.letters = slices.Delete(n.letters, i, i+1)
	case kind < 13:
		n.receive(t, i, true)
	default:
		n.receive(t, i, false)
	}
}

// P8.5, P8.1: offices whose letters are lost, doubled and delayed never differ, and know of others what these have, now and behind each storm and fire.
func TestLetters(t *testing.T) {
	x := newRandom()
	long, shared := 0, 0
	for range 40 {
		n := newNetwork()
		manors := 2 + x.IntN(5)
		for i := range pick(x, 100, 400) {
			n.step(t, x, manors)
			if i%3 == 0 {
				n.check(t, x)
			}
		}
		long += n.long
		for me, m := range n.offices {
			shared += len(m.Written) - retoldHave(m.Written)[me]
		}
	}
	if long < 5 || shared < 500 {
		t.Error("too little happens: ", long, shared)
	}
}

// settle has two offices ask each other, and their letters received, until no letter has records.
func settle(t *testing.T, n *network, a, b int) {
	t.Helper()
	for range 100 {
		n.ask(t, a, b)
		n.ask(t, b, a)
		carried := 0
		for len(n.letters) > 0 {
			carried += len(n.letters[0].Records)
			n.receive(t, 0, false)
		}
		if carried == 0 {
			return
		}
	}
	t.Error("letters never end: ", n.offices[a], n.offices[b])
}

// P8.6: two offices that ask each other until no letter has records have the same book, the join of both.
func TestEqual(t *testing.T) {
	x := newRandom()
	met := 0
	for range 300 {
		n := newNetwork()
		manors := 2 + x.IntN(5)
		for range 30 + x.IntN(60) {
			n.step(t, x, manors)
		}
		a, b := bookOf(n.offices[0].Written), bookOf(n.offices[1].Written)
		whole, e := roll.Join(a, b)
		if e != api.OK {
			wantErrno(t, "Join", e, api.ErrLong)
			continue
		}
		n.letters = nil
		settle(t, n, 0, 1)
		for _, m := range n.offices[:2] {
			got, e := roll.Sorted(m.Written)
			want(t, fmt.Sprint("Sorted ", a, b), got, e, whole, api.OK)
		}
		if len(whole.Records) > len(a.Records)+3 && len(whole.Records) > len(b.Records)+3 {
			met++
		}
	}
	if met < 30 {
		t.Error("too few offices have much to tell each other: ", met)
	}
}
