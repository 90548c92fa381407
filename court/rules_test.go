package court_test

import (
	"fmt"
	"math"
	"slices"
	"strings"
	"testing"

	"pinfold/api"
	"pinfold/court"
)

// full is a court that has something of everything.
func full(t *testing.T) *court.Court {
	t.Helper()
	return after(t, slices.Concat(foundations(), []string{"stray 0 1 1 1 1", "hold 0 1 1 1 5", "held 0 1 1 7 1 20 500 9", "claimed 0 1 1 3 1", "finding 0 1 1 1 1 1",
		"ask 1 0", "deliver 0", "double 0", "impound 0 7", "impound 0 8", "send 0 7 1", "send 0 8 1", "dry 0", "out 0 1"})...)
}

// P10.2: what a court gives out shares no memory with it, and what it is given is not kept (R4).
func TestMemory(t *testing.T) {
	d := full(t)
	was := stateOf(d)
	for range 2 {
		for n := range api.MaxManors {
			wipe(d.Office(n).Written)
			wipe(d.Pound(n).Journal)
			a := d.Account(n)
			wipe(a.Tariffs)
			wipe(a.Stays)
			wipe(a.Notes)
		}
		s := d.Setting()
		for i := range s.Plaints {
			wipe(s.Plaints[i].Beasts)
			wipe(s.Plaints[i].Sureties)
		}
		wipe(s.Marks.Given)
		wipe(s.Pastures)
		wipe(s.Byelaws)
		wipe(s.Yard.Pens)
		wipe(s.Yard.Kinds)
		wipe(s.Sorts)
		wipe(s.Tariffs)
		wipe(s.Plaints)
		wipe(s.Sureties)
		wipe(s.Counted)
		letters := d.Letters()
		for i := range letters {
			wipe(letters[i].Records)
		}
		wipe(letters)
		wipe(d.Riders())
		if now := stateOf(d); now != was {
			t.Error(now)
		}
	}
	wantTold(t, d, "inside 0 1: 3", "posts 0 1 3: 1 3 3 0 12/1 3 3 1 7/1 3 3 11 3/3 3 3 0 9/3 3 3 1 7/3 3 3 11 4")
}

// wipe overwrites a list, and what lies behind it.
func wipe[T any](l []T) {
	for i := range l[:cap(l)] {
		var zero T
		l[:cap(l)][i] = zero
	}
}

// P10.2: the letters that are under way share no records with each other.
func TestMemoryOfLetters(t *testing.T) {
	d := full(t)
	l := d.Letters()
	if len(l) != 2 || len(l[0].Records) == 0 || len(l[1].Records) == 0 {
		t.Fatal(l)
	}
	l[0].Records[0] = api.Record{Kind: 77}
	if l[1].Records[0].Kind == 77 || d.Letters()[0].Records[0].Kind == 77 || d.Letters()[1].Records[0].Kind == 77 {
		t.Error(d.Letters())
	}
}

// P10.2: no command is changed, and none is kept.
func TestCommandsStay(t *testing.T) {
	d := full(t)
	x := newRandom(8)
	for _, p := range phrases {
		for range 5 {
			k := &clerk{x: x, r: newRetold()}
			k.add(p.kind)
			c := command(t, k.l[0])
			c.Args = slices.Grow(c.Args, 20)
			behind := c.Args[:cap(c.Args)]
			copied := slices.Clone(behind)
			d.Do(c)
			if !slices.Equal(behind, copied) {
				t.Error(c, copied)
			}
			was := stateOf(d)
			for i := range behind {
				behind[i] = 77
			}
			if now := stateOf(d); now != was {
				t.Error(c, now)
			}
		}
	}
}

// P10.2: an answer is new memory.
func TestAnswersAreNew(t *testing.T) {
	d := full(t)
	for _, line := range []string{"records", "clear", "place", "posts 0 1 3", "x"} {
		c, _, _ := court.Parse(line)
		first := d.Do(c)
		wanted := fmt.Sprint(d.Do(c))
		for i := range first {
			first[i] = "?"
		}
		if now := fmt.Sprint(d.Do(c)); now != wanted {
			t.Error(line, now, wanted)
		}
	}
}

// P10.2: books, cases, events and beasts that are looked at are not changed, and no result shares memory with them.
func TestMemoryOfBooks(t *testing.T) {
	x := newRandom(9)
	for range 50 {
		b, c := randomBook(x), pleas()
		b.Records = slices.Grow(b.Records, 20)
		was := fmt.Sprint(b.Records[:cap(b.Records)], c)
		events, _ := court.Events(b)
		deeds, _ := court.Deeds(b)
		stays, _ := court.Stays(b)
		notes, _ := court.Notes(b)
		findings, _ := court.Findings(b, c)
		wipe(events)
		wipe(deeds)
		wipe(stays)
		wipe(notes)
		wipe(findings)
		if now := fmt.Sprint(b.Records[:cap(b.Records)], c); now != was {
			t.Error(now)
		}
		wantBook(t, b)
	}
	m, l, beasts := manyMarks(8), lives(), []int{9, 4, 3, 4, 1}
	beasts = slices.Grow(beasts, 20)
	was := fmt.Sprint(m, l, beasts[:cap(beasts)])
	d, e := court.Counts(m, l, beasts, 5, 5)
	if now := fmt.Sprint(m, l, beasts[:cap(beasts)]); now != was {
		t.Error(now)
	}
	again := one(d, e)
	for i := range d.Beasts {
		wipe(d.Beasts[i].Owners)
		if i > 0 && len(d.Beasts[i-1].Owners) > 0 && d.Beasts[i-1].Owners[0] != 0 {
			t.Error("owners share memory: ", d)
		}
	}
	wipe(d.Stocks)
	if d, e := court.Counts(m, l, beasts, 5, 5); one(d, e) != again {
		t.Error(d, again)
	}
}

// P10.2: nil and empty lists are the same (R3).
func TestNilAndEmpty(t *testing.T) {
	events, e := court.Events(api.Book{Records: []api.Record{}})
	want(t, "Events", events, e, nil, api.OK)
	findings, e := court.Findings(api.Book{Records: []api.Record{}}, api.Case{Plaints: []api.Plaint{}, Sureties: []api.Surety{}, Findings: []api.Finding{}})
	want(t, "Findings", findings, e, nil, api.OK)
	m := manyMarks(0)
	m.Given = []api.Given{}
	drive, e := court.Counts(m, []api.Event{}, []int{}, 1, 1)
	want(t, "Counts", drive, e, api.Drive{}, api.OK)
	text, e := court.Print(api.Command{Kind: api.CmdClear, Args: []int{}})
	want(t, "Print", text, e, "clear", api.OK)
	if told := court.New().Do(api.Command{Kind: api.CmdClear, Args: []int{}}); !slices.Equal(told, []string{"ok"}) {
		t.Error(told)
	}
}

// P10.2: a nil court has nothing, and does nothing; nor is there another manor than six.
func TestNoCourt(t *testing.T) {
	var none *court.Court
	for _, p := range phrases {
		if told := none.Do(api.Command{Kind: p.kind, Args: make([]int, len(p.numbers))}); !slices.Equal(told, []string{"error 100"}) {
			t.Error(p.word, told)
		}
	}
	for _, c := range []api.Command{{}, {Kind: -1}, {Kind: api.CmdClear, Args: []int{1}}} {
		if told := none.Do(c); !slices.Equal(told, []string{"error 100"}) {
			t.Error(c, told)
		}
	}
	want(t, "Setting", none.Setting(), api.OK, api.Setting{}, api.OK)
	want(t, "Letters", none.Letters(), api.OK, nil, api.OK)
	want(t, "Riders", none.Riders(), api.OK, nil, api.OK)
	for _, d := range []*court.Court{none, full(t)} {
		for _, n := range append(outside(0, 5), 0, 3, 5, math.MinInt, math.MaxInt) {
			if d != none && n >= 0 && n <= 5 {
				continue
			}
			want(t, "Office", d.Office(n), api.OK, api.Office{}, api.OK)
			want(t, "Pound", d.Pound(n), api.OK, api.Pound{}, api.OK)
			want(t, "Account", d.Account(n), api.OK, api.Account{}, api.OK)
		}
	}
}

// P10.2: whatever the arguments are, nothing panics, and each command is answered (P1).
func TestAnyArguments(t *testing.T) {
	x := newRandom(10)
	d, empty := full(t), &court.Court{}
	for range 20000 {
		p := pick(x, phrases...)
		c := api.Command{Kind: p.kind, Args: make([]int, len(p.numbers))}
		for i := range c.Args {
			c.Args[i] = pick(x, 0, 0, 1, 1, 2, 5, rare(x))
		}
		for _, d := range []*court.Court{d, empty} {
			if told := d.Do(c); len(told) == 0 || slices.Contains(told, "") || strings.Contains(strings.Join(told, ""), "\n") {
				t.Errorf("%v: %q", c, told)
			}
		}
	}
	for range 2000 {
		b := make([]byte, x.IntN(300))
		for i := range b {
			b[i] = pick(x, ' ', '\n', '>', '<', '#', '-', '0', '1', 'c', byte(x.IntN(256)))
		}
		text := string(b)
		for _, text := range []string{text, "> " + text, "> clear\n< ok\n" + text} {
			if _, n, e := court.Parse(text); e == api.OK && n != 0 {
				t.Errorf("Parse of %q", text)
			}
			if told, n, e := court.Run(text); e != api.OK && told != "" || e == api.OK && n != 0 {
				t.Errorf("Run of %q: %q %d %d", text, told, n, e)
			}
			court.Transcript(text)
			court.Open(text)
			n, e := court.Accept(text)
			wantAccept(t, text, n, e)
		}
	}
}
