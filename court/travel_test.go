package court_test

import (
	"fmt"
	"testing"

	"pinfold/api"
	"pinfold/court"
	"pinfold/march"
	"pinfold/roll"
)

// wantLetters wants the letters under way, by who writes to whom.
func wantLetters(t *testing.T, d *court.Court, wanted ...string) {
	t.Helper()
	var l []string
	for _, x := range d.Letters() {
		text := fmt.Sprint(x.From, "-", x.To)
		if x.Asks {
			text += "?"
		}
		if len(x.Records) > 0 {
			text += fmt.Sprint(" with ", len(x.Records))
		}
		l = append(l, text)
	}
	want(t, "Letters", l, api.OK, wanted, api.OK)
}

// P10.2: letters are put behind those under way, and a number chooses one of them, modulo how many there are.
func TestLetters(t *testing.T) {
	d := after(t, "stray 0 1 1 1 1", "stray 0 1 1 2 1", "stray 1 1 1 3 1", "ask 1 0: letters 1", "ask 0 1: letters 2", "ask 2 1: letters 3")
	wantLetters(t, d, "1-0?", "0-1?", "2-1?")
	wantTold(t, d, "deliver 3: letters 3")
	wantLetters(t, d, "0-1?", "2-1?", "0-1 with 2")
	wantTold(t, d, "deliver -2: letters 3")
	wantLetters(t, d, "0-1?", "0-1 with 2", "1-2 with 1")
	wantTold(t, d, "double 4: letters 4")
	wantLetters(t, d, "0-1?", "0-1 with 2", "1-2 with 1", "0-1 with 2")
	wantTold(t, d, "lose -4: letters 3")
	wantLetters(t, d, "0-1 with 2", "1-2 with 1", "0-1 with 2")
	wantTold(t, d, "deliver 1000000000: letters 3")
	wantLetters(t, d, "0-1 with 2", "0-1 with 2", "2-1?")
	wantTold(t, d, "deliver 0: letters 3")
	wantLetters(t, d, "0-1 with 2", "2-1?", "1-0?")
	wantTold(t, d, "deliver 0: letters 2", "records: records 2/records 3/records 1/records 0/records 0/records 0")
	wantLetters(t, d, "2-1?", "1-0?")
	wantTold(t, d, "lose 1: letters 1", "lose 0: letters 0", "lose 0: error 3", "deliver 0: error 3", "double 0: error 3", "deliver -1: error 3")
	if m := d.Office(1); m.Known[0] != [6]int{2} || m.Known[2] != [6]int{} || m.Rolls.Main.Wet != "" {
		t.Error(m)
	}
}

// P10.2: an office asks another one, and seals its rolls.
func TestAsk(t *testing.T) {
	d := after(t, "stray 0 1 1 1 1", "stray 5 1 1 1 1")
	was := stateOf(d)
	wantTold(t, d, "ask 0 0: error 1", "ask 0 6: error 1", "ask 0 -1: error 1", "ask 5 5: error 1")
	if stateOf(d) != was {
		t.Error(stateOf(d))
	}
	m, x, e := roll.Ask(d.Office(0), 5)
	wantTold(t, d, "ask 0 5: letters 1")
	want(t, "Office", d.Office(0), e, m, api.OK)
	want(t, "Letters", d.Letters(), e, []api.Letter{x}, api.OK)
}

// P10.2, P10.5: at most 40 letters are under way; if there are as many, nothing is asked.
func TestManyLetters(t *testing.T) {
	d := after(t, "stray 1 1 1 1 1")
	for n := range 39 {
		wantTold(t, d, fmt.Sprintf("ask 0 1: letters %d", 1+n))
	}
	wantTold(t, d, "double 7: letters 40")
	was := stateOf(d)
	wantTold(t, d, "ask 1 0: error 2", "ask 1 1: error 1", "double 0: error 2")
	if stateOf(d) != was || d.Office(1).Rolls.Main.Wet == "" {
		t.Error("something was asked: ", stateOf(d))
	}
	wantTold(t, d, "deliver 0: letters 40", "lose 0: letters 39", "ask 1 0: letters 40")
}

// P10.2, P10.5: a letter that an office does not take is gone.
func TestLetterThatIsGone(t *testing.T) {
	d := after(t, "stray 1 1 1 1 1")
	for range api.MaxRecords {
		wantTold(t, d, "stray 0 1 1 1 1")
	}
	wantTold(t, d, "ask 0 1: letters 1", "ask 2 1: letters 2", "deliver 0: letters 2")
	was := fmt.Sprint(d.Office(0), d.Office(1), d.Office(2), d.Setting())
	wantLetters(t, d, "2-1?", "1-0 with 1")
	wantTold(t, d, "deliver 1: error 2")
	wantLetters(t, d, "2-1?")
	if now := fmt.Sprint(d.Office(0), d.Office(1), d.Office(2), d.Setting()); now != was {
		t.Error(now)
	}
}

// P10.2: a storm, and maybe a fire, are those of chapter 8 with the numbers of the command.
func TestRestart(t *testing.T) {
	lines := []string{"stray 2 1 1 1 1", "stray 2 1 1 2 1", "ask 2 0", "stray 2 1 1 3 1", "stray 2 1 1 4 1", "stray 2 1 1 5 1"}
	lost, kept := 0, 0
	for _, n := range [][]int{{0, 0, 0, 0}, {0, 0, 0, 1}, {0, 0, 0, 2}, {40, 0, 0, 0}, {40, 1, 5, 0}, {40, 1, 5, 2}, {70, 0, 0, 1}, {1000, 3, 77, 5}, {-1, 0, 0, 0}, {-1, -1, -1, -1}, {-1, 1, 40, 0}, {50, 2, 0, 4}, {90, 5, 80, 3}, {-1, 0, 0, 1}, {-1, 0, 0, 3}} {
		d := after(t, lines...)
		m, e := roll.Restart(d.Office(2), []int{n[0], n[1], n[2], 0, 0, 0, n[3]})
		wantTold(t, d, fmt.Sprintf("%s: records %d", line("restart", append([]int{2}, n...)...), len(m.Written)))
		want(t, fmt.Sprint(n), d.Office(2), e, m, api.OK)
		lost += 5 - len(m.Written)
		kept += len(m.Written) - 2
	}
	if lost < 5 || kept < 5 {
		t.Error(lost, kept)
	}
	d := after(t, lines...)
	wantTold(t, d, "restart 2 0 0 0 0: records 2", "stray 2 1 1 6 1: record 2 2", "restart 0 0 0 0 1: records 0")
}

// P10.2: beasts are impounded, sent, called back and released.
func TestPounds(t *testing.T) {
	d := after(t, "impound 0 7: ok", "impound 0 8: ok", "here 0: 7 8", "where 7: 0", "riding 7: none", "send 0 7 1: ride 1", "send 0 8 2: ride 2", "here 0: none", "where 7: none", "riding 7: 1 1 7 0", "riding 8: 2 2 8 0")
	wantTold(t, d, "impound 0 7: error 92", "impound 0 0: error 1", "impound 0 10000: error 1", "release 0 7: error 93", "release 0 0: error 1", "send 0 7 1: error 93", "send 0 9 6: error 90", "send 0 9 0: error 90", "send 0 0 6: error 1", "call 0 3: error 94", "call 0 0: error 94",
		"out 0 0: error 90", "out 0 6: error 90", "where 0: error 1", "riding 10000: error 1", "hear 0: error 3", "drop 0: error 3")
	wantTold(t, d, "out 0 1: riders 0", "dry 0: ok", "out 0 1: riders 1", "call 0 1: ok", "call 0 1: error 94", "riding 7: 1 1 7 1", "wreck 0 0: ok", "riding 7: 1 1 7 0", "call 0 1: ok", "wreck 0 1: ok", "riding 7: 1 1 7 1", "out 0 1: riders 2", "out 0 2: riders 3")
	want(t, "Riders", d.Riders(), api.OK, []api.Rider{{Kind: api.RdOffer, To: 1, Beast: 7, No: 1}, {Kind: api.RdRecall, To: 1, Beast: 7, No: 1}, {Kind: api.RdOffer, To: 2, Beast: 8, No: 2}}, api.OK)
	wantTold(t, d, "hear -2: riders 2", "hear 2: riders 1", "here 1: none", "where 7: none", "hear 0: riders 0", "where 8: 2", "riding 8: none", "dry 1: ok", "dry 2: ok", "out 1 0: riders 1", "out 2 0: riders 2", "drop 3: riders 1", "hear 5: riders 0", "where 7: 0", "riding 7: none", "release 0 7: ok", "where 7: none")
	p := api.Pound{Me: 0, Firm: 5, Journal: []api.Entry{{Kind: api.EnPound, Beast: 7}, {Kind: api.EnPound, Beast: 8}, {Kind: api.EnSend, Beast: 7, Other: 1, No: 1}, {Kind: api.EnSend, Beast: 8, Other: 2, No: 2},
		{Kind: api.EnCall, Beast: 7, Other: 1, No: 1}, {Kind: api.EnBack, Beast: 7, Other: 1, No: 1}, {Kind: api.EnRelease, Beast: 7}}}
	want(t, "Pound", d.Pound(0), march.Check(p), p, api.OK)
	wantTold(t, d, "impound 0 7: ok", "impound 1 7: ok", "where 7: 0 1", "wreck 0 -1: ok", "here 0: 7", "wreck 1 2: ok", "here 1: none")
}

// P10.2, P10.5: at most 40 riders are under way; if there would be more, none goes out.
func TestManyRiders(t *testing.T) {
	d := after(t, "impound 0 1", "impound 0 2", "impound 0 3", "send 0 1 1", "send 0 2 1", "send 0 3 1", "dry 0", "impound 1 4", "send 1 4 0", "dry 1")
	for n := range 13 {
		wantTold(t, d, fmt.Sprintf("out 0 1: riders %d", 3*n+3))
	}
	was := stateOf(d)
	wantTold(t, d, "out 0 1: error 2", "out 0 0: error 90", "out 0 2: riders 39")
	if stateOf(d) != was {
		t.Error(stateOf(d))
	}
	wantTold(t, d, "out 1 0: riders 40", "out 1 0: error 2", "out 0 2: riders 40", "drop 0: riders 39", "out 1 0: riders 40", "hear 5: riders 39")
}

// P10.2, P10.5: a rider that a pound does not take is gone.
func TestRiderThatIsGone(t *testing.T) {
	d := after(t, "impound 0 7", "send 0 7 1", "dry 0", "out 0 1: riders 1", "out 0 1: riders 2")
	for range api.MaxJournal / 2 {
		wantTold(t, d, "impound 1 5: ok", "release 1 5: ok")
	}
	was := fmt.Sprint(d.Pound(0), d.Pound(1))
	wantTold(t, d, "impound 1 5: error 2", "hear 0: error 2", "drop 0: riders 0")
	if now := fmt.Sprint(d.Pound(0), d.Pound(1)); now != was {
		t.Error(now)
	}
	wantTold(t, d, "out 0 1: riders 1", "hear 0: error 2", "hear 0: error 3", "where 7: none")
}
