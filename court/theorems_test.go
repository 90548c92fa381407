package court_test

import (
	"fmt"
	"math/rand/v2"
	"slices"
	"strings"
	"testing"

	"pinfold/api"
	"pinfold/court"
	"pinfold/roll"
)

// numbersFor are numbers for a command, of which some are told, by their names; others are drawn.
func numbersFor(x *rand.Rand, p phrase, told map[string]func() int) []int {
	var l []int
	for _, name := range p.numbers {
		if of := told[name]; of != nil {
			l = append(l, of())
		} else {
			l = append(l, pick(x, usual(name)...))
		}
	}
	return l
}

// randomRecord is a line of a record that a manor writes, known on a day from one to another one.
func randomRecord(x *rand.Rand, manor, from, to int) string {
	kind := pick(x, kindsFrom(21, 46)...)
	p := phrases[slices.IndexFunc(phrases, func(p phrase) bool { return p.kind == kind })]
	return line(p.word, numbersFor(x, p, map[string]func() int{
		"MANOR": func() int { return manor },
		"KNOWN": func() int { return from + x.IntN(to-from+1) },
		"STAY":  func() int { return pick(x, 1, 2, 3, 5, 8, 10001, 10002, 10003, 20001, 20002) },
		"NO":    func() int { return x.IntN(8) },
	})...)
}

// asked are queries of the manor 0 about all that is told as known on days up to one.
func asked(x *rand.Rand, known int) []string {
	var l []string
	for _, p := range phrases {
		if !p.isQuery() || !p.ofManor() || p.word == "here" {
			continue
		}
		day := func() int { return x.IntN(known + 1) }
		for range 6 {
			l = append(l, line(p.word, numbersFor(x, p, map[string]func() int{
				"MANOR": func() int { return 0 },
				"DAY":   day,
				"KNOWN": day,
				"STAY":  func() int { return pick(x, 1, 2, 3, 5, 8, 10001, 10002, 10003, 20001, 20002) },
				"NO":    func() int { return x.IntN(8) },
			})...))
		}
	}
	return l
}

// answers are those of lines.
func answers(t *testing.T, d *court.Court, lines []string) map[string]string {
	t.Helper()
	told := map[string]string{}
	for _, line := range lines {
		told[line] = do(t, d, line)
	}
	return told
}

// exchange has all manors ask each other, and receive what they are sent, until all have all records.
func exchange(t *testing.T, d *court.Court) {
	t.Helper()
	for range 3 {
		for a := range api.MaxManors {
			for b := range api.MaxManors {
				if a == b {
					continue
				}
				wantTold(t, d, line("ask", a, b))
				for len(d.Letters()) > 0 {
					wantTold(t, d, "deliver 0")
				}
			}
		}
	}
}

// P10.3: manors that have the same records tell the same.
func TestManorsWithTheSameRecords(t *testing.T) {
	told := 0
	for seed := range uint64(12) {
		x := newRandom(3000 + seed)
		d := court.New()
		for _, line := range foundations() {
			do(t, d, line)
		}
		for range 50 {
			do(t, d, randomRecord(x, x.IntN(3), 0, 8))
			if x.IntN(6) == 0 {
				do(t, d, line("ask", x.IntN(3), x.IntN(3)))
				do(t, d, "deliver 0")
			}
		}
		exchange(t, d)
		book, e := roll.Sorted(d.Office(0).Written)
		want(t, "Sorted", len(book.Records) > 20, e, true, api.OK)
		for n := range api.MaxManors {
			b, e := roll.Sorted(d.Office(n).Written)
			want(t, "Sorted", b, e, book, api.OK)
			want(t, "Account", d.Account(n), e, d.Account(0), api.OK)
		}
		for _, query := range asked(x, 12) {
			word, numbers, _ := strings.Cut(query, " 0")
			first := do(t, d, query)
			if !strings.HasPrefix(first, "error") && first != "none" {
				told++
			}
			for n := 1; n < api.MaxManors; n++ {
				if other := do(t, d, fmt.Sprint(word, " ", n, numbers)); other != first {
					t.Errorf("%s: %s; manor %d: %s", query, first, n, other)
				}
			}
		}
	}
	if told < 300 {
		t.Error("too little is told: ", told)
	}
}

// P10.5: a command that is refused, and a query, change nothing, but that a letter or a rider is gone.
func TestRefused(t *testing.T) {
	refused := 0
	for seed := range uint64(30) {
		x := newRandom(4000 + seed)
		k := randomScript(x, themes()[seed%6], 100)
		d := court.New()
		for _, line := range k.l {
			was, letters, riders := stateOf(d), len(d.Letters()), len(d.Riders())
			told := do(t, d, line)
			word, _, _ := strings.Cut(line, " ")
			p, _ := phraseOf(word)
			if !p.isQuery() && !strings.HasPrefix(told, "error") {
				continue
			}
			refused++
			isGone := word == "deliver" && len(d.Letters()) == letters-1 || word == "hear" && len(d.Riders()) == riders-1
			if !isGone && stateOf(d) != was {
				t.Errorf("%s: %s: %s; it was %s", line, told, stateOf(d), was)
			}
		}
	}
	if refused < 1000 {
		t.Error("too few are refused: ", refused)
	}
}

// P10.6: records that become known later change nothing that is told of a day.
func TestLaterRecords(t *testing.T) {
	told, changed := 0, 0
	for seed := range uint64(30) {
		x := newRandom(5000 + seed)
		d := court.New()
		for _, line := range foundations() {
			do(t, d, line)
		}
		for range 35 {
			do(t, d, randomRecord(x, 0, 0, 6))
		}
		no := len(d.Office(0).Written)
		queries := asked(x, 6)
		queries = slices.DeleteFunc(queries, func(line string) bool {
			// Of an item that is not there yet it is told that there is none.
			c := command(t, line)
			return c.Kind == api.CmdMoved && (c.Args[2] != 0 || c.Args[3] >= no)
		})
		was := answers(t, d, queries)
		for range 40 {
			do(t, d, randomRecord(x, 0, 7, 9))
		}
		if len(d.Office(0).Written) < no+10 {
			t.Error("too few records: ", no, len(d.Office(0).Written))
		}
		for line, now := range answers(t, d, queries) {
			if now != was[line] {
				t.Errorf("%s: %s; it was %s", line, now, was[line])
			}
			if !strings.HasPrefix(now, "error") && now != "none" {
				told++
			}
			// The last number is the day as known on of most queries.
			if later := command(t, line); later.Kind < api.CmdPosts && later.Kind != api.CmdWrong && later.Kind != api.CmdMoved {
				later.Args[len(later.Args)-1] = 20
				if strings.Join(d.Do(later), "\n") != now {
					changed++
				}
			}
		}
	}
	if changed < 100 {
		t.Error("too little is told another way later: ", changed)
	}
	if told < 1000 {
		t.Error("too little is told: ", told)
	}
}

// P10.6: a withdrawal that becomes known later leaves what was told of a day.
func TestLaterWithdrawals(t *testing.T) {
	d := after(t, "tariff 0 5 20 10", "rate 0 1 12 4", "held 0 10 10 7 1 20 500 9", "claimed 0 13 14 1 3", "stray 0 1 1 8 1", "hold 0 1 1 1 5", "pasture 1 0 359", "right 0 1 1 1 1 60")
	queries := []string{"due 0 1 20", "lot 0 1 20", "inside 0 20", "posts 0 14 20", "alive 0 1 20", "use 0 1 1 20 20"}
	was := answers(t, d, queries)
	for no := range 5 {
		wantTold(t, d, line("withdraw", 0, 21, no))
	}
	for line, now := range answers(t, d, queries) {
		if now != was[line] {
			t.Errorf("%s: %s; it was %s", line, now, was[line])
		}
	}
	wantTold(t, d, "due 0 1 21: error 65", "inside 0 21: none", "alive 0 1 21: none", "use 0 1 1 20 21: error 24")
}

// P10.7: if each beast is impounded at most once, it is in at most one pound, and in none while it rides.
func TestOnePound(t *testing.T) {
	arrived, rode, back := 0, 0, 0
	for seed := range uint64(25) {
		x := newRandom(6000 + seed)
		d := court.New()
		beasts := 0
		for range 200 {
			manor, other, n := x.IntN(3), x.IntN(3), x.IntN(50)
			beast := 1 + x.IntN(beasts+1)
			switch x.IntN(12) {
			case 0:
				if beasts < 8 {
					beasts++
					wantTold(t, d, line("impound", manor, beasts)+": ok")
				}
			case 1, 2, 3:
				do(t, d, line("send", manor, beast, other))
			case 4:
				do(t, d, line("call", manor, 1+x.IntN(6)))
			case 5, 6:
				do(t, d, line("dry", manor))
			case 7:
				do(t, d, line("wreck", manor, x.IntN(3)))
			case 8, 9:
				do(t, d, line("out", manor, other))
			case 10:
				do(t, d, line("drop", n))
				if x.IntN(10) == 0 {
					do(t, d, line("release", manor, beast))
				}
			default:
				do(t, d, line("hear", n))
			}
			do(t, d, line("hear", n))
			for beast := 1; beast <= beasts; beast++ {
				where, riding := do(t, d, line("where", beast)), do(t, d, line("riding", beast))
				if strings.Contains(where, " ") || where != "none" && riding != "none" {
					t.Fatalf("the beast %d is in %s, and rides %s", beast, where, riding)
				}
				if riding != "none" {
					rode++
				}
			}
		}
		for n := range api.MaxManors {
			for _, x := range d.Pound(n).Journal {
				switch x.Kind {
				case api.EnTake:
					arrived++
				case api.EnBack:
					back++
				}
			}
		}
	}
	if arrived < 30 || rode < 500 || back < 3 {
		t.Error("too little is done: ", arrived, rode, back)
	}
}
