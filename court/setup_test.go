package court_test

import (
	"fmt"
	"testing"

	"pinfold/api"
	"pinfold/court"
)

// wantSetting wants what a court was told.
func wantSetting[T any](t *testing.T, d *court.Court, of func(s api.Setting) T, wanted T) {
	t.Helper()
	want(t, "Setting", of(d.Setting()), api.OK, wanted, api.OK)
}

// P10.2: at a new court nothing is told, written or under way, and each sign is read as itself.
func TestNew(t *testing.T) {
	d := court.New()
	want(t, "Setting", d.Setting(), api.OK, api.Setting{Marks: api.Marks{Wear: api.Wear{1, 2, 4, 8, 16}}}, api.OK)
	for n := range api.MaxManors {
		want(t, "Office", d.Office(n), api.OK, api.Office{Me: n}, api.OK)
		want(t, "Pound", d.Pound(n), api.OK, api.Pound{Me: n}, api.OK)
		want(t, "Account", d.Account(n), api.OK, api.Account{}, api.OK)
	}
	if len(d.Letters()) > 0 || len(d.Riders()) > 0 {
		t.Error(d.Letters(), d.Riders())
	}
	if stateOf(d) != newRetold().state() {
		t.Error(stateOf(d))
	}
}

// P10.2: the mark book is what was told of it, as long as it is valid.
func TestMarksOfACourt(t *testing.T) {
	d := after(t, "give 5: ok", "give 6: ok", "mark 3 2 0 0 0 0 4: ok")
	wantTold(t, d,
		"wear 1 3 4 8 16: error 13", "wear 2 2 4 8 16: error 13", "wear 1 2 4 8 32: error 13", "wear 0 2 4 8 16: error 13", "wear -1 2 4 8 16: error 13",
		"false 1: error 13", "false 3: error 13", "false -1: error 13",
		"mark 0 1 1 1 1 1 1: error 15", "mark 100 1 1 1 1 1 1: error 15", "mark 5 1 1 1 1 1 1: error 15", "mark 7 1 1 1 1 1 5: error 10", "mark 7 1 1 1 1 1 -1: error 10", "mark 5 5 5 5 5 5 5: error 15",
		"mark 7 2 0 0 0 0 4: error 19", "give 0: error 15", "give 100: error 15", "give 6: error 15",
		"unmark 7: error 3", "unmark 0: error 15", "unmark 100: error 15",
	)
	marks := func(s api.Setting) api.Marks { return s.Marks }
	given := []api.Given{{Owner: 3, Mark: api.Mark{2, 0, 0, 0, 0, 4}}, {Owner: 5}, {Owner: 6, Mark: api.Mark{5: 1}}}
	wantSetting(t, d, marks, api.Marks{Wear: api.Wear{1, 2, 4, 8, 16}, Given: given})
	wantTold(t, d, "unmark 6: ok", "wear 1 3 4 24 24: ok", "false 0: ok")
	wantSetting(t, d, marks, api.Marks{Wear: api.Wear{1, 3, 4, 24, 24}, Given: given[:2]})
	wantTold(t, d, "unmark 3: ok", "false 2: ok", "give 1: ok")
	wantSetting(t, d, marks, api.Marks{Wear: api.Wear{1, 3, 4, 24, 24}, False: 2, Given: []api.Given{{Owner: 1, Mark: api.Mark{0, 2, 2, 2, 2, 2}}, {Owner: 5}}})
	d = court.New()
	for owner := range api.MaxMarks {
		wantTold(t, d, line("give", 99-owner)+": ok")
	}
	wantTold(t, d, "give 1: error 16", "mark 1 4 4 4 4 4 4: error 16", "next: error 16", "unmark 99: ok", "next", "give 1: ok")
}

// P10.2: pastures and byelaws are put at their places, or in the place of those that they replace.
func TestPasturesAndByelaws(t *testing.T) {
	d := after(t, "pasture 5 0 359: ok", "pasture 99 90 270: ok", "pasture 1 300 60: ok", "pasture 5 7 8: ok")
	wantTold(t, d, "pasture 0 0 0: error 20", "pasture 100 0 0: error 20", "pasture 2 0 360: error 20", "pasture 2 -1 0: error 20", "pasture 5 360 0: error 20")
	pastures := func(s api.Setting) []api.Pasture { return s.Pastures }
	wantSetting(t, d, pastures, []api.Pasture{{Id: 1, Season: api.Range{Lo: 300, Hi: 60}}, {Id: 5, Season: api.Range{Lo: 7, Hi: 8}}, {Id: 99, Season: api.Range{Lo: 90, Hi: 270}}})
	wantTold(t, d, "pasture 2 0 0", "pasture 3 0 0", "pasture 4 0 0", "pasture 6 0 0", "pasture 7 0 0", "pasture 8 0 0: error 2", "pasture 8 0 360: error 20", "pasture 7 1 2: ok", "pasture 1 0 359: ok")
	if l := d.Setting().Pastures; len(l) != 8 || l[0] != (api.Pasture{Id: 1, Season: api.Range{Hi: 359}}) {
		t.Error(l)
	}
	wantTold(t, d, "byelaw 70 2 10 1 2 3 4 5 6 7 8 9: ok", "byelaw 71 1 20 9 9 9 9 9 9 9 9 9: ok", "byelaw 99999 2 0 0 0 0 0 0 0 0 0 100000: ok", "byelaw 72 1 20 1 1 1 1 1 1 1 1 1: ok", "byelaw 1 99 100000 0 0 0 0 0 0 0 0 0: ok",
		"byelaw 0 1 0 0 0 0 0 0 0 0 0 0: error 21", "byelaw 100000 1 0 0 0 0 0 0 0 0 0 0: error 21", "byelaw 1 0 0 0 0 0 0 0 0 0 0 0: error 21", "byelaw 1 100 0 0 0 0 0 0 0 0 0 0: error 21",
		"byelaw 1 1 -1 0 0 0 0 0 0 0 0 0: error 21", "byelaw 1 1 100001 0 0 0 0 0 0 0 0 0: error 21", "byelaw 1 1 20 -1 0 0 0 0 0 0 0 0: error 21", "byelaw 1 1 20 0 0 0 0 0 0 0 0 100001: error 21")
	wantSetting(t, d, func(s api.Setting) []api.Byelaw { return s.Byelaws }, []api.Byelaw{
		{Source: 72, Pasture: 1, From: 20, Parts: [10]int{0, 1, 1, 1, 1, 1, 1, 1, 1, 1}}, {Source: 99999, Pasture: 2, Parts: [10]int{9: 100000}},
		{Source: 70, Pasture: 2, From: 10, Parts: [10]int{0, 1, 2, 3, 4, 5, 6, 7, 8, 9}}, {Source: 1, Pasture: 99, From: 100000},
	})
	for from := range 16 {
		wantTold(t, d, line("byelaw", 1, 50, from, 0, 0, 0, 0, 0, 0, 0, 0, 0)+": ok")
	}
	wantTold(t, d, "byelaw 1 50 16 0 0 0 0 0 0 0 0 0: error 2", "byelaw 0 50 16 0 0 0 0 0 0 0 0 0: error 21", "byelaw 8 50 15 0 0 0 0 0 0 0 0 0: ok")
}

// P10.2: the yard is what was told of it, as long as it is valid; sorts may be any numbers.
func TestYardOfACourt(t *testing.T) {
	d := after(t, "pen 10: ok", "pen 0: ok", "pen 1000: ok", "kind 3 1 0 0: ok", "kind 1 1000 1000 1022: ok", "kind 9 5 8 2: ok", "kind 3 7 8 4: ok")
	wantTold(t, d, "pen -1: error 50", "pen 1001: error 50", "kind 0 1 1 0: error 50", "kind 10 1 1 0: error 50", "kind 2 0 1 0: error 50", "kind 2 1001 1 0: error 50", "kind 2 1 -1 0: error 50", "kind 2 1 1001 0: error 50",
		"kind 2 1 1 -1: error 50", "kind 2 1 1 1: error 50", "kind 2 1 1 1024: error 50", "kind 3 0 0 0: error 50")
	wantSetting(t, d, func(s api.Setting) api.Yard { return s.Yard }, api.Yard{Pens: []int{10, 0, 1000}, Kinds: []api.Kind{{Sort: 1, Room: 1000, Eats: 1000, Apart: 1022}, {Sort: 3, Room: 7, Eats: 8, Apart: 4}, {Sort: 9, Room: 5, Eats: 8, Apart: 2}}})
	wantTold(t, d, "pen 1: ok", "pen 2: ok", "pen 3: error 50")
	for sort := 1; sort <= 9; sort++ {
		wantTold(t, d, line("kind", sort, 1, 1, 0)+": ok")
	}
	wantTold(t, d, "kind 10 1 1 0: error 50", "kind 0 1 1 0: error 50", "kind 5 2 2 2: ok")
	wantTold(t, d, "sort 9: ok", "sort 1: ok", "sort 9: ok", "sort 0: ok", "sort -5: ok", "sort 1000000000: ok", "sort 2: ok", "sort 2: ok", "sort 2: error 2", "sort -7: error 2", "place: error 51")
	wantSetting(t, d, func(s api.Setting) []int { return s.Sorts }, []int{9, 1, 9, 0, -5, 1000000000, 2, 2})
	wantTold(t, d, "counted 7: ok", "clear: ok", "sort 2: ok")
	wantSetting(t, d, func(s api.Setting) []int { return s.Sorts }, []int{2})
	wantSetting(t, d, func(s api.Setting) []int { return s.Counted }, nil)
}

// P10.2: tariffs are put at their places, and those that replace others have no rates.
func TestTariffsOfACourt(t *testing.T) {
	d := after(t, "tariff 10 5 20 10: ok", "tariff 0 10000 60 0: ok", "rate 10 1 12 4: ok", "rate 10 9 10000 0: ok", "rate 0 2 1 2: ok", "tariff 100000 0 0 60: ok", "tariff 0 1 2 3: ok", "rate 10 1 13 5: ok")
	wantTold(t, d, "tariff -1 0 0 0: error 60", "tariff 100001 0 0 0: error 60", "tariff 0 -1 0 0: error 60", "tariff 0 10001 0 0: error 60", "tariff 0 0 -1 0: error 60", "tariff 0 0 0 -1: error 60", "tariff 0 0 31 30: error 60",
		"rate 5 0 -1 -1: error 3", "rate -1 1 1 1: error 3", "rate 10 0 -1 0: error 1", "rate 10 10 0 0: error 1", "rate 10 -1 0 0: error 1", "rate 10 1 -1 0: error 60", "rate 10 1 10001 0: error 60", "rate 10 1 0 -1: error 60", "rate 10 1 0 10001: error 60")
	wanted := []api.Tariff{{From: 0, Feed: 1, Hayward: 2, Driver: 3}, {From: 10, Feed: 5, Hayward: 20, Driver: 10, Head: api.Rates{1: 13, 9: 10000}, Daily: api.Rates{1: 5}}, {From: 100000, Driver: 60}}
	wantSetting(t, d, func(s api.Setting) []api.Tariff { return s.Tariffs }, wanted)
	for n := range api.MaxManors {
		want(t, "Account", d.Account(n), api.OK, api.Account{Tariffs: wanted}, api.OK)
	}
	wantTold(t, d, "tariff 1 0 0 0", "tariff 2 0 0 0", "tariff 3 0 0 0", "tariff 4 0 0 0", "tariff 5 0 0 0", "tariff 6 0 0 0: error 2", "tariff 6 -1 0 0: error 60", "tariff 5 1 1 1: ok", "rate 6 1 1 1: error 3")
}

// P10.2: sureties and plaints are put at their places.
func TestPleasOfACourt(t *testing.T) {
	d := after(t, "surety 5 60 60: ok", "surety 2 100 150: ok", "surety 999 0 1000000: ok", "surety 5 50 70: ok")
	wantTold(t, d, "surety 0 1 1: error 71", "surety 1000 1 1: error 71", "surety 5 2 1: error 71", "surety 5 -1 1: error 71", "surety 5 1 1000001: error 71")
	wantSetting(t, d, func(s api.Setting) []api.Surety { return s.Sureties }, []api.Surety{{Id: 2, Worth: api.Range{Lo: 100, Hi: 150}}, {Id: 5, Worth: api.Range{Lo: 50, Hi: 70}}, {Id: 999, Worth: api.Range{Hi: 1000000}}})
	wantTold(t, d, "plaint 9 7 50 120 2 3 10 5: ok", "plaint 4 8 0 70 4 5 9999 2: ok",
		"plaint 9 7 50 120 2 3 10 5: error 70", "plaint 1 7 50 120 2 3 10 6: error 70", "plaint 0 7 50 120 2 3 10 5: error 70", "plaint 1 0 50 120 2 3 10 5: error 70", "plaint 1 7 121 120 2 3 10 5: error 70",
		"plaint 1 7 50 120 -1 3 10 5: error 70", "plaint 1 7 50 120 2 100001 10 5: error 70", "plaint 1 7 50 120 2 3 0 5: error 70", "plaint 1 7 50 120 2 3 10 0: error 70",
		"names 9 3: ok", "names 9 11: ok", "backs 9 2: ok", "backs 9 999: ok",
		"names 1 0: error 3", "names 9 10: error 1", "names 9 11: error 1", "names 9 0: error 73", "names 9 10000: error 73", "backs 1 0: error 3", "backs 9 5: error 1", "backs 9 7: error 73", "backs 4 1: error 73")
	plaints := func(s api.Setting) []api.Plaint { return s.Plaints }
	wantSetting(t, d, plaints, []api.Plaint{
		{Id: 4, Owner: 8, Beasts: []int{9999}, Claim: api.Range{Hi: 70}, Day: 4, Known: 5, Sureties: []int{2}},
		{Id: 9, Owner: 7, Beasts: []int{3, 10, 11}, Claim: api.Range{Lo: 50, Hi: 120}, Day: 2, Known: 3, Sureties: []int{2, 5, 999}},
	})
	for id := 10; id < 14; id++ {
		wantTold(t, d, line("plaint", id, 1, 0, 0, 0, 0, 1, 5)+": ok")
	}
	wantTold(t, d, "plaint 14 1 0 0 0 0 1 5: error 2", "plaint 14 1 0 0 0 0 1 6: error 70")
	for beast := 20; beast < 29; beast++ {
		wantTold(t, d, line("names", 9, beast)+": ok")
	}
	wantTold(t, d, "names 9 30: error 73", "names 4 30: ok")
	for id := 10; id < 15; id++ {
		wantTold(t, d, line("surety", id, 1, 1)+": ok", line("backs", 9, id)+": ok")
	}
	wantTold(t, d, "surety 16 1 1: error 2", "surety 16 2 1: error 71", "surety 14 0 7: ok")
}

// P10.2: what was counted rises, each beast once.
func TestCountedOfACourt(t *testing.T) {
	d := after(t, "counted 7: ok", "counted 9999: ok", "counted 1: ok")
	wantTold(t, d, "counted 0: error 1", "counted 10000: error 1", "counted -7: error 1", "counted 7: error 1")
	wantSetting(t, d, func(s api.Setting) []int { return s.Counted }, []int{1, 7, 9999})
	for beast := 10; beast < 47; beast++ {
		wantTold(t, d, line("counted", beast)+": ok")
	}
	wantTold(t, d, "counted 5: error 2", "counted 0: error 1", "counted 7: error 1", "sort 5: ok", "clear: ok", "counted 5: ok")
	want(t, "Setting", fmt.Sprint(d.Setting().Counted, d.Setting().Sorts), api.OK, "[5] []", api.OK)
}
