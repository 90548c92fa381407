package roll_test

import (
	"fmt"
	"testing"

	"pinfold/api"
	"pinfold/roll"
)

// wantOpen wants the records that are on rolls, dry on both.
func wantOpen(t *testing.T, name string, r api.Rolls, wanted ...api.Record) {
	t.Helper()
	dry := api.Roll{Dry: textOf(wanted)}
	rolls, l := roll.Open(r)
	want(t, name, pair[api.Rolls, []api.Record]{rolls, l}, api.OK, pair[api.Rolls, []api.Record]{api.Rolls{Main: dry, Copy: dry}, wanted}, api.OK)
}

// P8.1: the rows of the chapter's examples on rolls.
func TestExamplesOfRolls(t *testing.T) {
	r, l, e := roll.Write(api.Rolls{}, nil, example())
	line := withSum(1, "2 0 5 10 12 0 0 a")
	want(t, "Write", pair[api.Rolls, []api.Record]{r, l}, e, pair[api.Rolls, []api.Record]{api.Rolls{Main: api.Roll{Wet: line}}, []api.Record{example()}}, api.OK)
	wantOpen(t, "Tear with 0", roll.Tear(r, []int{0}))
	wantOpen(t, "Tear with the length", roll.Tear(r, []int{len(line), 0, 0}), example())
	torn := roll.Tear(r, []int{len(line), 1, 3})
	want(t, "Tear with a smudge", torn, api.OK, api.Rolls{Main: api.Roll{Dry: line[:3] + "?" + line[4:]}}, api.OK)
	wantOpen(t, "Tear with a smudge", torn)
	wantOpen(t, "Seal, and Burn of Main", roll.Burn(roll.Seal(r), false), example())
}

// P8.1: the rows of the chapter's examples on letters.
func TestExamplesOfLetters(t *testing.T) {
	newOffice := func(me int) api.Office {
		m, e := roll.NewOffice(me)
		wantErrno(t, "NewOffice", e, api.OK)
		return m
	}
	two, r, e := roll.Note(newOffice(2), changed(example(), func(r *api.Record) { r.At = at(0, 0) }))
	want(t, "Note", r, e, example(), api.OK)
	three, asks, e := roll.Ask(newOffice(3), 2)
	want(t, "Ask", asks, e, api.Letter{From: 3, To: 2, Asks: true}, api.OK)
	have := [6]int{0, 0, 1}
	two, letters, e := roll.Receive(two, asks)
	want(t, "Receive by 2", letters, e, []api.Letter{{From: 2, To: 3, Have: have, Records: []api.Record{example()}}}, api.OK)
	three, letters, e = roll.Receive(three, letters[0])
	want(t, "Receive by 3", letters, e, []api.Letter{{From: 3, To: 2, Asks: true, Have: have}}, api.OK)
	want(t, "Receive by 3", three.Written, e, []api.Record{example()}, api.OK)
	two, letters, e = roll.Receive(two, letters[0])
	want(t, "Receive by 2", letters, e, []api.Letter{{From: 2, To: 3, Have: have}}, api.OK)
	want(t, "Known", two.Known[3], e, have, api.OK)
	_, letters, e = roll.Receive(three, letters[0])
	want(t, "Receive by 3", letters, e, nil, api.OK)
	four, letters, e := roll.Receive(newOffice(4), api.Letter{From: 2, To: 4, Have: have, Records: []api.Record{changed(example(), func(r *api.Record) { r.At.No = 1 })}})
	want(t, "Receive by 4", letters, e, nil, api.OK)
	want(t, "Receive by 4", fmt.Sprint(four.Written, four.Known[2]), e, fmt.Sprint([]api.Record{}, have), api.OK)
}
