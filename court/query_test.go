package court_test

import (
	"testing"

	"pinfold/api"
	"pinfold/court"
)

// P10.2: the rows of chapter 1's examples, at a court.
func TestAskedMarks(t *testing.T) {
	d := after(t, "wear 1 3 4 24 24", "mark 1 0 0 0 0 0 0", "mark 2 2 0 0 0 0 0", "mark 3 3 0 0 0 0 2")
	wantTold(t, d, "reads 31 1 1 1 1 31: 1 2 3", "reads 4 1 1 1 1 1: 2", "reads 4 4 1 1 1 1: none", "look 31 1 1 1 1 31: 0", "look 4 1 1 1 1 1: none", "look 5 1 1 1 1 1: 0", "look 0 1 1 1 1 1: error 12", "reads 31 1 1 1 1 32: error 12", "next: 0 0 0 0 0 2", "give 9", "next: 0 0 0 0 0 3")
}

// P10.2: the rows of chapter 4's examples, at a court.
func TestAskedBeasts(t *testing.T) {
	d := after(t, "wear 1 3 4 24 24", "mark 1 0 0 0 0 0 0", "mark 2 2 0 0 0 0 0", "mark 3 3 0 0 0 0 2",
		"born 0 1 1 10 3 2 0", "born 0 5 5 11 3 2 10", "stray 0 6 6 20 3", "seen 0 6 6 20 31 1 1 1 1 31", "sold 0 7 7 10 1", "seen 0 6 9 20 24 1 1 1 1 31", "found 0 10 10 20 3", "seen 0 8 11 11 1 1 1 1 1 1", "died 0 12 12 10", "withdraw 0 14 5: record 0 9")
	wantTold(t, d, "beast 0 10 7: 3 0 1 2 1 -1 0", "beast 0 10 12: 3 0 1 2 1 12 0", "beast 0 11 11: 3 10 2 2 5 -1 0", "beast 0 20 10: 3 0 3 0 6 -1 1", "beast 0 21 10: error 42", "beast 0 10 0: error 42", "beast 0 0 7: error 1", "beast 0 10 -1: error 6",
		"bearers 0 20 6: 1 2 3", "bearers 0 20 9: 3", "bearers 0 20 14: 1 2 3", "bearers 0 10 7: 1 2 3", "bearers 0 12 7: error 42", "wrong 0 10: none", "wrong 0 11: 11", "wrong 0 -1: error 6",
		"alive 0 12 12: 11 20", "alive 0 0 12: none", "alive 0 -1 12: error 6", "moved 0 9 0 5: 20", "moved 0 14 0 5: none", "moved 0 14 0 9: 20", "moved 0 9 0 10: error 3", "moved 0 9 1 5: error 3", "moved 0 -1 0 10: error 6",
		"beast 1 10 7: error 42", "alive 1 12 12: none")
}

// P10.2: the rows of chapter 2's examples, at a court.
func TestAskedRights(t *testing.T) {
	d := after(t, "pasture 1 90 270", "pasture 2 300 60", "byelaw 1 1 0 60 0 12 0 0 0 0 0 0", "byelaw 2 1 360 60 0 20 0 0 0 0 0 0",
		"hold 0 1 1 1 5", "hold 0 1 1 2 6", "right 0 2 2 1 1 300", "split 0 100 100 1 2 1 60", "let 0 110 110 1 2 1 120 200", "joined 0 150 150 2 1", "close 0 120 120 1 130", "withdraw 0 400 3")
	wantTold(t, d, "use 0 1 1 110 110: 120", "use 0 2 1 110 110: 180", "use 0 1 1 201 201: 240", "use 0 1 1 110 400: 180", "use 0 3 1 110 110: error 24", "use 0 1 3 110 110: error 20", "use 0 0 3 110 110: error 1", "use 0 1 1 -1 0: error 6", "use 0 1 1 0 -1: error 6",
		"total 0 1 110 110: 300", "total 0 2 110 110: 0", "total 0 3 110 110: error 20", "total 1 1 110 110: 0",
		"most 0 5 1 1 110 110: 2", "most 0 5 1 3 110 110: 10", "most 0 5 1 3 470 470: 15", "most 0 5 1 2 110 110: 0", "most 0 5 2 2 110 110: error 26", "most 0 100 1 2 110 110: error 1")
}

// P10.2: what of a drive is told of whom, if the pasture is open, and how many parts may be used.
func TestAskedDrives(t *testing.T) {
	d := after(t, "give 5", "give 6", "give 7", "pasture 1 0 99", "pasture 2 0 359", "byelaw 1 1 1 60 12 0 0 0 0 0 0 3600", "byelaw 2 1 9 60 12 0 0 0 0 0 0 3601", "hold 0 1 1 1 5", "right 0 1 1 1 1 60", "hold 0 1 1 2 5", "right 0 1 1 2 1 60", "right 0 1 1 2 2 10", "hold 0 1 1 3 6", "right 0 1 1 3 1 60",
		"born 0 1 1 1 1 5 0", "born 0 1 1 2 1 5 0", "born 0 1 1 3 2 6 0", "stray 0 1 1 4 1", "seen 0 1 1 4 1 1 1 1 1 3", "stray 0 1 1 5 1", "seen 0 1 1 5 1 1 1 1 1 1", "stray 0 1 1 6 1",
		"counted 1", "counted 3", "counted 4")
	wantTold(t, d, "count 0 5 1 1 1: 1 2", "count 0 6 1 1 1: 0 1", "count 0 6 2 1 1: 1 1", "count 0 7 1 1 1: 0 0", "count 0 5 0 1 1: error 1", "count 0 5 1 -1 1: error 6", "count 0 5 1 1 -1: error 6", "count 0 5 1 0 1: 0 0",
		"prove 0 5 1 1 1: bound 1/proof 1", "prove 0 6 1 1 1: bound 0/proof", "prove 0 100 1 1 1: error 1", "prove 0 5 10 1 1: error 1", "prove 0 5 1 1 100001: error 6",
		"whose 0 1 5 1 1: yes", "whose 0 1 6 1 1: no", "whose 0 4 6 1 1: maybe", "whose 0 4 7 1 1: no", "whose 0 5 5 1 1: error 3", "whose 0 0 5 1 1: error 1", "whose 0 1 5 -1 1: error 6",
		"over 0 5 1 1 1: no", "over 0 6 1 1 1: maybe", "over 0 7 1 1 1: no",
		"over 0 5 1 99 99: error 37", "over 0 5 1 0 1: error 26", "over 0 5 2 1 1: error 26", "over 0 5 3 1 1: error 20", "over 0 5 1 9 9: error 37", "over 0 0 1 1 1: error 1", "over 0 0 1 0 1: error 26", "over 0 0 3 -1 1: error 6", "over 0 0 1 9 9: error 1",
		"close 0 2 2 1 3: record 0 15", "over 0 5 1 2 1: no", "over 0 5 1 2 2: yes", "over 0 6 1 2 2: yes", "over 0 7 1 2 2: no", "over 0 0 1 2 2: error 1", "over 0 5 1 4 2: no")
	wantTold(t, d, "withdraw 0 3 3: record 0 16", "over 0 5 1 1 2: no", "over 0 5 1 1 3: maybe", "withdraw 0 1 1: record 0 17", "over 0 5 1 1 2: maybe", "over 0 5 1 1 3: yes")
	wantTold(t, d, "counted 2", "counted 5", "counted 6", "count 0 5 1 1 1: 3 5", "count 0 6 1 1 1: 0 2", "count 0 7 1 1 1: 0 1", "prove 0 5 1 1 1: bound 3/proof 1 2 5")
	wantTold(t, d, "count 1 5 1 1 1: 0 0", "over 1 5 1 1 1: no", "clear", "count 0 5 1 1 1: 0 0", "whose 0 1 5 1 1: error 3")
}

// P10.2: the rows of chapter 5's examples, at a court.
func TestAskedPens(t *testing.T) {
	d := after(t, "pen 10", "pen 6", "pen 4", "kind 1 5 8 0", "kind 2 4 6 2", "kind 3 1 1 0", "kind 4 2 3 16", "place: none", "fewest: none", "refuse: error 3",
		"sort 1", "sort 1", "sort 2", "place: 0 0 1", "refuse: error 3", "clear", "sort 1", "sort 1", "sort 1", "sort 1", "place: error 53", "fewest: error 53", "refuse: 4 0 1 2 3",
		"clear", "sort 4", "sort 4", "sort 4", "sort 4", "refuse: 3 0 1 2 3", "clear", "sort 1", "sort 1", "sort 1", "sort 2", "sort 3", "sort 3", "sort 2", "refuse: 2 0 1 2 3 4 5",
		"clear", "sort 1", "sort 4", "sort 4", "fewest: 0 0 1", "place: 0 0 1", "clear", "kind 1 11 0 0", "sort 3", "sort 1", "refuse: 1 1", "sort 9", "place: error 51", "refuse: error 51", "fewest: error 51")
	if d.Setting().Yard.Kinds[0] != (api.Kind{Sort: 1, Room: 11}) {
		t.Error(d.Setting().Yard)
	}
	wantTold(t, court.New(), "place: none", "sort 1", "place: error 51")
}

// P10.2: the rows of chapter 6's examples, at a court.
func TestAskedDues(t *testing.T) {
	d := after(t, "tariff 0 5 20 10", "rate 0 1 12 4", "held 0 10 10 7 1 20 500 9", "claimed 0 13 14 1 3", "freed 0 15 15 1")
	wantTold(t, d, "lot 0 1 13: 0 -1 0 -1", "charge 0 1 13: 12 40 16", "lot 0 1 14: 3 13 0 -1", "charge 0 1 14: 12 50 12", "lot 0 1 20: 3 13 1 15", "charge 0 1 20: 12 50 12", "due 0 1 13: -1 0 0 0", "due 0 1 20: 5 24 12 38",
		"lot 0 2 20: error 65", "charge 0 1 9: error 65", "due 0 1 -1: error 6", "lot 1 1 20: error 65", "posts 0 13 14: 14 1 5 0 38/14 1 5 1 24/14 1 5 11 12", "posts 0 14 20: 14 1 5 0 38/14 1 5 1 24/14 1 5 11 12", "posts 0 12 13: none", "posts 0 14 14: error 66", "posts 0 14 13: error 66", "posts 0 -1 13: error 66",
		"balance 0 11 13 14: 12", "balance 0 5 13 14: -74", "balance 0 0 13 14: 38", "balance 0 1 12 13: 0", "balance 0 102 13 14: error 68", "balance 0 -1 14 13: error 66", "inside 0 14: 1", "inside 0 15: none", "inside 0 9: none", "inside 0 -1: error 6",
		"judged 0 18 18 1 6: record 0 3", "posts 0 15 18: 15 1 5 0 38/15 1 5 1 24/15 1 5 11 12/18 1 5 0 -38/18 1 8 0 38/18 1 5 1 -24/18 1 8 1 24/18 1 5 11 -12/18 1 8 11 12",
		"withdraw 0 30 1: record 0 4", "withdraw 0 30 2: record 0 5", "withdraw 0 30 3: record 0 6", "lot 0 1 29: 6 13 1 15", "lot 0 1 100: 0 -1 2 59", "due 0 1 100: 2 166 83 251", "withdraw 0 90 0: record 0 7", "lot 0 1 89: 0 -1 2 59", "lot 0 1 90: error 65", "inside 0 50: 1")
}

// P10.2: the rows of chapter 7's examples, at a court.
func TestAskedPleas(t *testing.T) {
	d := after(t, "surety 1 100 150", "surety 2 60 60", "surety 3 40 90", "plaint 5 7 50 120 2 2 10 1", "names 5 11", "backs 5 2", "plaint 6 8 0 70 3 4 11 2", "names 6 12", "backs 6 3", "plaint 9 7 0 40 6 6 20 1", "backs 9 3",
		"finding 0 8 8 5 110 20", "finding 0 9 12 5 60 60", "finding 0 8 8 4 1 1", "finding 0 8 8 5 121 1")
	wantTold(t, d, "allowed 0 1: none", "allowed 0 3: 5", "allowed 0 4: 5 6", "allowed 0 6: 5 6", "refused 0 5: none", "refused 0 6: 9", "short 0 6: 5 6 9", "short 0 5: error 75", "allowed 0 -1: error 6", "refused 0 -1: error 6", "short 0 -1: error 6",
		"owed 0 5 0 8: 20", "owed 0 5 1 8: 90", "owed 0 5 2 8: 0", "owed 0 5 3 8: error 1", "owed 0 4 0 8: error 3", "owed 0 5 0 1: error 3", "owed 0 5 0 -1: error 6",
		"levies 0 12: 8 5 0 20/8 5 1 90/12 5 0 40/12 5 1 -90", "levies 0 11: 8 5 0 20/8 5 1 90", "levies 0 7: none", "levies 0 -1: error 6", "levies 1 12: none", "owed 1 5 0 8: 0")
	wantTold(t, d, "plaint 4 1 0 1 7 7 1 2", "finding 0 8 9 4 1 1", "levies 0 9: 8 4 0 1/8 5 0 20/8 5 1 90")
}

// P10.2: each manor tells of what its own office has.
func TestAskedOfManors(t *testing.T) {
	d := after(t, "give 5", "stray 1 1 1 7 1", "stray 2 1 1 8 1", "hold 2 1 1 1 5", "pasture 1 0 359", "right 2 1 1 1 1 60", "held 3 1 1 7 1 1 1 1", "impound 4 7")
	wantTold(t, d, "alive 0 1 1: none", "alive 1 1 1: 7", "alive 2 1 1: 8", "total 2 1 1 1: 60", "total 1 1 1 1: 0", "inside 3 1: 30001", "inside 0 1: none", "here 4: 7", "here 5: none", "records: records 0/records 1/records 3/records 1/records 0/records 0")
	want(t, "Account", d.Account(3), api.OK, api.Account{Stays: []api.Held{{Source: 30001, Beast: 7, Sort: 1, Eats: 1, Worth: 1, Driver: 1, Day: 1, Known: 1}}}, api.OK)
	want(t, "Account", d.Account(2), api.OK, api.Account{}, api.OK)
}

// P10.2: an account has the tariffs, and the stays and notes of the manor's book, in its order.
func TestAccount(t *testing.T) {
	d := after(t, "tariff 0 5 20 10", "held 1 1 1 7 1 1 1 1", "claimed 1 2 2 10001 3", "held 0 1 1 8 1 1 1 1", "freed 0 5 5 1", "withdraw 0 9 1", "ask 1 0", "deliver 0", "deliver 0", "records: records 3/records 5/records 0/records 0/records 0/records 0")
	tariffs := []api.Tariff{{Feed: 5, Hayward: 20, Driver: 10}}
	stays := []api.Held{{Source: 1, Beast: 8, Sort: 1, Eats: 1, Worth: 1, Driver: 1, Day: 1, Known: 1}, {Source: 10001, Beast: 7, Sort: 1, Eats: 1, Worth: 1, Driver: 1, Day: 1, Known: 1}}
	notes := []api.Note{{Source: 2, Stay: 1, Kind: api.Freed, Day: 5, Known: 5, Until: 9}, {Source: 10002, Stay: 10001, Kind: api.Claimed, Owner: 3, Day: 2, Known: 2}}
	want(t, "Account", d.Account(1), api.OK, api.Account{Tariffs: tariffs, Stays: stays, Notes: notes}, api.OK)
	want(t, "Account", d.Account(0), api.OK, api.Account{Tariffs: tariffs, Stays: stays[:1], Notes: notes[:1]}, api.OK)
}
