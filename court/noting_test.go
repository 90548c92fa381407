package court_test

import (
	"fmt"
	"strings"
	"testing"

	"pinfold/api"
	"pinfold/court"
	"pinfold/roll"
)

// wantWritten wants the records of a manor's office.
func wantWritten(t *testing.T, d *court.Court, manor int, wanted ...api.Record) {
	t.Helper()
	want(t, "Written", d.Office(manor).Written, api.OK, wanted, api.OK)
}

// P10.2: each command that writes a record writes this one.
func TestRecords(t *testing.T) {
	for i, c := range []struct {
		line string
		kind int
		text string
	}{
		{"born 3 7 8 10 2 5 0", 1, "10 2 5 0"}, {"stray 3 7 8 10 2", 2, "10 2"}, {"sold 3 7 8 10 5", 3, "10 5"}, {"seen 3 7 8 10 1 2 4 8 16 31", 4, "10 1 2 4 8 16 31"},
		{"found 3 7 8 10 5", 5, "10 5"}, {"died 3 7 8 10", 6, "10"},
		{"hold 3 7 8 1 5", 11, "1 5"}, {"right 3 7 8 1 9 100000", 12, "1 9 100000"}, {"owner 3 7 8 1 5", 13, "1 5"}, {"split 3 7 8 1 2 9 60", 14, "1 2 9 60"},
		{"joined 3 7 8 1 2", 15, "1 2"}, {"let 3 7 8 1 2 9 60 7", 16, "1 2 9 60 7"}, {"open 3 7 8 9 100000", 17, "9 100000"}, {"close 3 7 8 9 7", 18, "9 7"},
		{"held 3 7 8 10 1 20 500 9", 21, "10 1 20 500 9"}, {"claimed 3 7 8 99999 5", 22, "99999 5"}, {"freed 3 7 8 4", 23, "4"}, {"judged 3 7 8 4 5", 24, "4 5"}, {"finding 3 7 8 999 1000000 0", 25, "999 1000000 0"},
	} {
		d := after(t, "stray 3 1 1 1 1: record 3 0", c.line+": record 3 1", "stray 3 1 1 1 1: record 3 2", "stray 2 1 1 1 1: record 2 0")
		plain := api.Record{At: item(3, 0), Kind: 2, Day: 1, Known: 1, Text: "1 1"}
		last := plain
		last.At.No = 2
		wantWritten(t, d, 3, plain, api.Record{At: item(3, 1), Kind: c.kind, Day: 7, Known: 8, Text: c.text}, last)
		if m := d.Office(3); roll.CheckRolls(m.Rolls, m.Written) != api.OK || m.Rolls.Main.Wet == "" || m.Rolls.Copy != (api.Roll{}) {
			t.Error(i, m)
		}
	}
}

// P10.2: the errors of what a record says, and of a day, are those of its own layer.
func TestErrorsOfRecords(t *testing.T) {
	d := court.New()
	for _, c := range []struct {
		e     int
		lines string
	}{
		{40, `born 0 0 0 0 1 1 0; born 0 0 0 10000 1 1 0; born 0 0 0 1 0 1 0; born 0 0 0 1 10 1 0; born 0 0 0 1 1 0 0; born 0 0 0 1 1 100 0; born 0 0 0 1 1 1 1; born 0 0 0 1 1 1 -1; born 0 -1 0 1 1 1 0; born 0 0 -1 1 1 1 0; born 0 100001 0 1 1 1 0;
			born 0 0 100001 1 1 1 0; stray 0 0 0 -1 1; stray 0 0 0 1 10; stray 0 0 -1 1 1; sold 0 0 0 1 0; sold 0 0 0 0 1; sold 0 100001 0 1 1; seen 0 0 0 1 0 1 1 1 1 1; seen 0 0 0 1 1 1 1 1 1 32; seen 0 0 0 0 1 1 1 1 1 1;
			seen 0 0 0 1 -1 1 1 1 1 1; found 0 0 0 1 100; found 0 0 -1 1 1; died 0 0 0 0; died 0 0 0 1000000000; died 0 -1 0 1`},
		{22, `hold 0 0 0 0 1; hold 0 0 0 100 1; hold 0 0 0 1 0; hold 0 -1 0 1 1; hold 0 0 100001 1 1; right 0 0 0 1 0 1; right 0 0 0 1 100 1; right 0 0 0 1 1 0; right 0 0 0 1 1 100001; owner 0 0 0 1 100; owner 0 0 0 -1 1; split 0 0 0 1 1 1 1; split 0 0 0 1 0 1 1;
			split 0 0 0 1 2 1 0; joined 0 0 0 1 1; joined 0 0 0 1 100; joined 0 0 0 0 1; let 0 5 0 1 2 1 1 4; let 0 0 0 1 2 1 1 100001; let 0 0 0 1 2 1 -1 5; open 0 5 0 1 4; open 0 0 0 0 4; close 0 5 0 1 4; close 0 0 0 100 4; close 0 0 -1 1 4`},
		{61, `held 0 0 0 0 1 0 0 0; held 0 0 0 10000 1 0 0 0; held 0 0 0 1 0 0 0 0; held 0 0 0 1 10 0 0 0; held 0 0 0 1 1 -1 0 0; held 0 0 0 1 1 101 0 0; held 0 0 0 1 1 0 -1 0; held 0 0 0 1 1 0 100001 0; held 0 0 0 1 1 0 0 -1; held 0 0 0 1 1 0 0 100;
			held 0 -1 0 1 1 0 0 0; held 0 0 100001 1 1 0 0 0`},
		{62, `claimed 0 0 0 0 1; claimed 0 0 0 100000 1; claimed 0 0 0 1 0; claimed 0 0 0 1 100; claimed 0 -1 0 1 1; claimed 0 0 -1 1 1; freed 0 0 0 0; freed 0 0 0 100000; freed 0 100001 0 1; freed 0 0 100001 1; judged 0 0 0 0 1; judged 0 0 0 1 0; judged 0 0 100001 1 1`},
		{72, `finding 0 0 0 0 1 1; finding 0 0 0 1000 1 1; finding 0 0 0 1 1000001 1; finding 0 0 0 1 -1 0; finding 0 0 0 1 1 2; finding 0 0 0 1 1 -1; finding 0 -1 0 1 1 1; finding 0 0 100001 1 1 1`},
	} {
		for _, line := range strings.Split(c.lines, ";") {
			wantTold(t, d, strings.TrimSpace(line)+fmt.Sprint(": error ", c.e))
		}
	}
	if stateOf(d) != stateOf(court.New()) {
		t.Error(stateOf(d))
	}
}

// P10.2: a book has at most 60 records; that is told behind what is wrong in a record.
func TestFullBook(t *testing.T) {
	d := court.New()
	for no := range api.MaxRecords {
		wantTold(t, d, fmt.Sprintf("stray 4 0 0 1 1: record 4 %d", no))
	}
	was := stateOf(d)
	wantTold(t, d, "stray 4 0 0 1 1: error 2", "stray 4 0 0 0 1: error 40", "hold 4 0 0 1 1: error 2", "hold 4 0 0 0 1: error 22", "held 4 0 0 1 1 1 1 1: error 2", "held 4 0 0 0 1 1 1 1: error 61", "claimed 4 0 0 1 1: error 2", "claimed 4 0 0 1 0: error 62",
		"finding 4 0 0 1 1 1: error 2", "finding 4 0 0 0 1 1: error 72", "withdraw 4 0 59: error 2", "withdraw 4 0 60: error 3", "withdraw 4 -1 59: error 80")
	if stateOf(d) != was {
		t.Error(stateOf(d))
	}
	wantTold(t, d, "stray 3 0 0 1 1: record 3 0")
}

// P10.2: a record of the manor's own is withdrawn at most once; a withdrawal, and a finding, is not.
func TestWithdraw(t *testing.T) {
	d := after(t, "stray 0 1 1 1 1: record 0 0", "hold 0 1 1 1 1: record 0 1", "held 0 1 1 1 1 1 1 1: record 0 2", "claimed 0 1 1 3 1: record 0 3", "finding 0 1 1 1 1 1: record 0 4", "stray 1 1 1 1 1: record 1 0", "stray 1 1 1 2 1: record 1 1")
	wantTold(t, d, "ask 0 1", "deliver 0", "deliver 0", "records: records 7/records 2/records 0/records 0/records 0/records 0")
	wantTold(t, d, "withdraw 0 5 5: error 3", "withdraw 0 5 -1: error 3", "withdraw 0 5 10000: error 3", "withdraw 0 5 4: error 1", "withdraw 0 -1 0: error 80", "withdraw 0 100001 0: error 80", "withdraw 0 100001 4: error 1", "withdraw 0 100001 9: error 3",
		"withdraw 0 5 0: record 0 5", "withdraw 0 0 1: record 0 6", "withdraw 0 5 2: record 0 7", "withdraw 0 100000 3: record 0 8",
		"withdraw 0 5 0: error 1", "withdraw 0 6 2: error 1", "withdraw 0 5 5: error 1", "withdraw 0 5 8: error 1", "withdraw 0 5 9: error 3", "withdraw 1 5 0: record 1 2", "withdraw 1 5 2: error 1", "withdraw 1 5 3: error 3")
	withdrawal := func(no, known, of int) api.Record {
		return api.Record{At: item(0, no), Known: known, Of: item(0, of)}
	}
	want(t, "Written", d.Office(0).Written[7:], api.OK, []api.Record{withdrawal(5, 5, 0), withdrawal(6, 0, 1), withdrawal(7, 5, 2), withdrawal(8, 100000, 3)}, api.OK)
}

// P10.2: the manor of a command is one of six, whatever else is wrong in it.
func TestManors(t *testing.T) {
	d := after(t, foundations()...)
	was := stateOf(d)
	for _, p := range phrases {
		if !p.ofManor() {
			continue
		}
		for _, manor := range append(outside(0, 5), 7) {
			numbers := make([]int, len(p.numbers))
			for i := range numbers {
				numbers[i] = -1
			}
			numbers[0] = manor
			wantTold(t, d, line(p.word, numbers...)+": error 1")
		}
	}
	if stateOf(d) != was {
		t.Error(stateOf(d))
	}
	for manor := range api.MaxManors {
		wantTold(t, d, fmt.Sprintf("stray %d 1 1 7 1: record %d 0", manor, manor), fmt.Sprintf("impound %d %d: ok", manor, 10+manor), fmt.Sprintf("here %d: %d", manor, 10+manor), fmt.Sprintf("where %d: %d", 10+manor, manor), fmt.Sprintf("beast %d 7 1: 1 0 0 0 1 -1 0", manor))
	}
}
