package court_test

import (
	"strings"
	"testing"

	"pinfold/api"
	"pinfold/court"
)

// P10.2: the examples of the document, at one court.
func TestExamplesOfTheDocument(t *testing.T) {
	wantTold(t, court.New(),
		"give 5: ok", "give 6: ok", "reads 1 1 1 1 1 3: 5 6", "look 1 1 1 1 1 3: 5",
		"born 0 1 1 7 1 5 0: record 0 0", "stray 0 2 2 8 1: record 0 1", "seen 0 2 2 8 1 1 1 1 1 3: record 0 2", "bearers 0 8 2: 5 6",
		"counted 7: ok", "counted 8: ok", "count 0 5 1 3 3: 1 2", "whose 0 8 6 3 3: maybe",
		"pasture 1 0 359: ok", "byelaw 1 1 0 60 0 0 0 0 0 0 0 0: ok", "hold 0 1 1 1 5: record 0 3", "right 0 1 1 1 1 60: record 0 4", "over 0 5 1 3 3: maybe",
		"seen 0 3 5 8 1 1 1 1 1 1: record 0 5", "bearers 0 8 5: 5", "over 0 5 1 3 4: maybe", "over 0 5 1 3 5: yes",
		"pen 10: ok", "kind 1 4 20 0: ok", "sort 1: ok", "sort 1: ok", "place: 0 0",
		"tariff 0 5 20 10: ok", "rate 0 1 12 4: ok", "held 0 10 10 8 1 20 500 9: record 0 6", "charge 0 7 13: 12 40 16",
		"claimed 0 13 14 7 5: record 0 7", "freed 0 15 15 7: record 0 8", "due 0 7 20: 7 24 12 38",
		"surety 1 100 100: ok", "plaint 5 5 0 74 16 16 8 1: ok", "allowed 0 16: 5", "finding 0 17 17 5 74 30: record 0 9", "owed 0 5 1 17: 44", "levies 0 17: 17 5 0 30/17 5 1 44",
		"impound 0 8: ok", "dry 0: ok", "send 0 8 1: ride 1", "dry 0: ok", "out 0 1: riders 1", "hear 0: riders 0", "where 8: 1", "ask 1 0: letters 1", "deliver 0: letters 1", "deliver 0: letters 1", "bearers 1 8 5: 5",
	)
}

// example is the script of the chapter, with what it tells.
const example = `give 5: ok
give 6: ok
tariff 0 5 20 10: ok
rate 0 1 12 4: ok
born 0 1 1 7 1 5 0: record 0 0
stray 0 2 2 8 1: record 0 1
seen 0 2 2 8 31 31 31 31 31 31: record 0 2
counted 7: ok
counted 8: ok
bearers 0 8 2: 5 6
count 0 5 1 3 3: 1 2
held 0 10 10 7 1 20 500 9: record 0 3
charge 0 4 13: 12 40 16
claimed 0 13 14 4 3: record 0 4
due 0 4 20: 5 44 22 68
impound 0 7: ok
dry 0: ok
send 0 7 1: ride 1
where 7: none
ask 1 0: letters 1
deliver 0: letters 1
deliver 0: letters 1
records: records 5/records 5/records 0/records 0/records 0/records 0`

// exampleTexts are the example's script, what it tells, and its transcript.
func exampleTexts() (text, told, paper string) {
	for _, line := range strings.Split(example, "\n") {
		command, answer, _ := strings.Cut(line, ": ")
		text += command + "\n"
		paper += "> " + command + "\n"
		for _, line := range strings.Split(answer, "/") {
			told += line + "\n"
			paper += "< " + line + "\n"
		}
	}
	return text, told, paper
}

// P10.2: the script of the chapter.
func TestExampleScript(t *testing.T) {
	text, told, paper := exampleTexts()
	got, e := two(court.Run(text))
	wantTwo(t, "Run", got, e, told, 0, api.OK)
	got, e = two(court.Transcript(text))
	wantTwo(t, "Transcript", got, e, paper, 0, api.OK)
	a, b, n, e := court.Open(paper)
	if a != text || b != told || n != 0 || e != api.OK {
		t.Error("Open: ", a, b, n, e)
	}
	n, e = court.Accept(paper)
	want(t, "Accept", n, e, 0, api.OK)
}

// P10.2: the rows of the chapter's examples.
func TestExamples(t *testing.T) {
	got, e := two(court.Parse("use 0 1 2 3 4"))
	wantTwo(t, "Parse", got, e, api.Command{Kind: api.CmdUse, Args: []int{0, 1, 2, 3, 4}}, 0, api.OK)
	for line, n := range map[string]int{"use 0 1 2 3": 5, "clear 1": 1, "": 0} {
		got, e := two(court.Parse(line))
		wantTwo(t, line, got, e, api.Command{}, n, api.ErrWords)
	}
	text, told, n, e := court.Open("> clear\n< ok\n")
	if text != "clear\n" || told != "ok\n" || n != 0 || e != api.OK {
		t.Error("Open: ", text, told, n, e)
	}
	n, e = court.Accept("> clear\n< ok\n")
	want(t, "Accept", n, e, 0, api.OK)
	n, e = court.Accept("> clear\n< none\n")
	want(t, "Accept", n, e, 2, api.ErrSaid)
}
