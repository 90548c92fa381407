package court_test

import (
	"fmt"
	"math/rand/v2"
	"slices"
	"strconv"
	"strings"
	"testing"

	"pinfold/api"
	"pinfold/court"
)

// language has the chapter's table: words, their Kinds, and what their numbers are.
const language = `
wear 1 SET0 SET1 SET2 SET3 SET4
false 2 FALSE
mark 3 OWNER SIGN SIGN SIGN SIGN SIGN SIGN
unmark 4 OWNER
give 5 OWNER
pasture 6 PASTURE SEASON SEASON
byelaw 7 SOURCE PASTURE FROM RATE RATE RATE RATE RATE RATE RATE RATE RATE
pen 8 ROOM
kind 9 SORT ROOM EATS APART
sort 10 SORT
tariff 11 FROM PENCE PART PART
rate 12 FROM SORT PENCE PENCE
surety 13 SURETY LEAST MOST
plaint 14 PLAINT OWNER LEAST MOST DAY KNOWN BEAST SURETY
names 15 PLAINT BEAST
backs 16 PLAINT SURETY
counted 17 BEAST
clear 18
born 21 MANOR DAY KNOWN BEAST SORT OWNER DAM
stray 22 MANOR DAY KNOWN BEAST SORT
sold 23 MANOR DAY KNOWN BEAST OWNER
seen 24 MANOR DAY KNOWN BEAST SET SET SET SET SET SET
found 25 MANOR DAY KNOWN BEAST OWNER
died 26 MANOR DAY KNOWN BEAST
hold 31 MANOR DAY KNOWN HOLDING OWNER
right 32 MANOR DAY KNOWN HOLDING PASTURE PARTS
owner 33 MANOR DAY KNOWN HOLDING OWNER
split 34 MANOR DAY KNOWN HOLDING HOLDING PASTURE PARTS
joined 35 MANOR DAY KNOWN HOLDING HOLDING
let 36 MANOR DAY KNOWN HOLDING HOLDING PASTURE PARTS UNTIL
open 37 MANOR DAY KNOWN PASTURE UNTIL
close 38 MANOR DAY KNOWN PASTURE UNTIL
held 41 MANOR DAY KNOWN BEAST SORT EATS WORTH DRIVER
claimed 42 MANOR DAY KNOWN STAY OWNER
freed 43 MANOR DAY KNOWN STAY
judged 44 MANOR DAY KNOWN STAY OWNER
finding 45 MANOR DAY KNOWN PLAINT LEAST LEAST
withdraw 46 MANOR KNOWN NO
ask 51 MANOR MANOR
deliver 52 N
lose 53 N
double 54 N
restart 55 MANOR N N N N
impound 61 MANOR BEAST
release 62 MANOR BEAST
send 63 MANOR BEAST MANOR
call 64 MANOR RIDE
dry 65 MANOR
wreck 66 MANOR N
out 67 MANOR MANOR
hear 68 N
drop 69 N
reads 71 SET SET SET SET SET SET
look 72 SET SET SET SET SET SET
next 73
beast 74 MANOR BEAST KNOWN
bearers 75 MANOR BEAST KNOWN
wrong 76 MANOR KNOWN
alive 77 MANOR DAY KNOWN
moved 78 MANOR KNOWN MANOR NO
use 81 MANOR HOLDING PASTURE DAY KNOWN
total 82 MANOR PASTURE DAY KNOWN
most 83 MANOR OWNER PASTURE SORT DAY KNOWN
count 84 MANOR OWNER SORT DAY KNOWN
prove 85 MANOR OWNER SORT DAY KNOWN
over 86 MANOR OWNER PASTURE DAY KNOWN
whose 87 MANOR BEAST OWNER DAY KNOWN
place 91
refuse 92
fewest 93
lot 94 MANOR STAY KNOWN
charge 95 MANOR STAY KNOWN
due 96 MANOR STAY KNOWN
posts 97 MANOR DAY DAY
balance 98 MANOR PARTY DAY DAY
inside 99 MANOR KNOWN
allowed 101 MANOR KNOWN
refused 102 MANOR KNOWN
short 103 MANOR KNOWN
owed 104 MANOR PLAINT SURETY KNOWN
levies 105 MANOR KNOWN
where 106 BEAST
riding 107 BEAST
here 108 MANOR
records 109`

// A phrase is a row of the table.
type phrase struct {
	word    string
	kind    int
	numbers []string
}

// phrases are all rows of the table.
var phrases = func() []phrase {
	var l []phrase
	for _, line := range strings.Split(language, "\n")[1:] {
		words := strings.Fields(line)
		kind, _ := strconv.Atoi(words[1])
		l = append(l, phrase{words[0], kind, words[2:]})
	}
	return l
}()

// phraseOf is the row of a word.
func phraseOf(word string) (phrase, bool) {
	i := slices.IndexFunc(phrases, func(p phrase) bool { return p.word == word })
	if i < 0 {
		return phrase{}, false
	}
	return phrases[i], true
}

// ofManor reports whether a command begins with the manor that it is for.
func (p phrase) ofManor() bool { return len(p.numbers) > 0 && p.numbers[0] == "MANOR" }

// isQuery reports whether a command only asks.
func (p phrase) isQuery() bool { return p.kind > 70 }

// line writes a word and its numbers.
func line(word string, numbers ...int) string {
	return strings.TrimSpace(word + " " + strings.Trim(fmt.Sprint(numbers), "[]"))
}

func newRandom(seed uint64) *rand.Rand { return rand.New(rand.NewPCG(10, seed)) }

// pick is one of some values.
func pick[T any](x *rand.Rand, l ...T) T { return l[x.IntN(len(l))] }

// usual are the numbers that are drawn most of the time: they are few, so that commands meet.
func usual(name string) []int {
	switch name {
	case "SET0":
		return []int{1, 1, 3, 31}
	case "SET1":
		return []int{2, 2, 3, 6}
	case "SET2":
		return []int{4, 4, 4, 31}
	case "SET3", "SET4":
		return []int{24, 24, 24, 31}
	case "SET":
		return []int{31, 31, 31, 31, 31, 31, 1, 1, 1, 1, 3, 2, 4, 24}
	case "FALSE", "SIGN":
		return []int{0, 0, 0, 0, 1, 2, 3, 4}
	case "MANOR":
		return []int{0, 0, 0, 0, 0, 0, 1, 1}
	case "DAY", "DAM":
		return []int{0, 0, 1, 1, 2, 2, 3, 4, 5, 6, 9, 12}
	case "KNOWN":
		return []int{0, 1, 2, 3, 3, 4, 5, 6, 8, 10, 12, 15}
	case "ASKEDDAY":
		return []int{0, 1, 3, 4, 5, 6, 7, 8, 9, 20, 375, 800}
	case "ASKEDKNOWN":
		return []int{1, 3, 5, 6, 7, 8, 10, 12, 20, 380, 800, 100000}
	case "SORT", "RIDE":
		return []int{1, 1, 1, 2, 2, 3}
	case "BEAST", "OWNER", "DRIVER", "HOLDING":
		return []int{1, 1, 2, 2, 3, 4}
	case "PASTURE", "PLAINT", "SURETY":
		return []int{1, 1, 2, 3}
	case "SEASON":
		return []int{0, 90, 270, 359}
	case "FROM":
		return []int{0, 0, 5, 360}
	case "RATE":
		return []int{0, 12, 60, 60, 60, 60, 60, 60, 60, 3600, 3601}
	case "PARTS":
		return []int{12, 60, 120, 300}
	case "PENCE", "PART":
		return []int{0, 5, 20, 30}
	case "ROOM", "EATS":
		return []int{4, 5, 10, 20}
	case "APART":
		return []int{0, 2, 4, 6}
	case "WORTH", "MOST":
		return []int{0, 40, 100, 500}
	case "LEAST":
		return []int{0, 10, 30, 100}
	case "UNTIL":
		return []int{3, 10, 12, 400}
	case "PARTY":
		return []int{0, 1, 2, 3, 4, 5, 6}
	}
	return []int{0, 1, 2, 3, 5, 7, 50, -1}
}

// rare are numbers about limits.
func rare(x *rand.Rand) int {
	return pick(x, -api.MaxNumber, -5, -1, 0, 1, 6, 9, 10, 32, 60, 99, 100, 101, 102, 360, 999, 1000, 1023, 1024, 9999, 10000, 10001, 10002, 20001, 50001, 99999, 100000, 100001, 1000000, 1000001, api.MaxNumber)
}

// A clerk makes up a script, with what is told then.
type clerk struct {
	x    *rand.Rand
	r    *retold
	l    []string
	told [][]string
}

// own are the numbers of what the offices have written themselves.
func (k *clerk) own(name string) []int {
	var l []int
	for _, m := range k.r.offices {
		for _, r := range m.Written {
			switch {
			case r.At.Manor != m.Me:
			case name == "NO":
				l = append(l, r.At.No)
			case name == "STAY" && r.Kind == api.RecHeld:
				l = append(l, retoldSource(r.At))
			}
		}
	}
	return l
}

// number is one for a command.
func (k *clerk) number(p phrase, name string) int {
	if p.isQuery() && (name == "DAY" || name == "KNOWN") {
		name = "ASKED" + name
	}
	own := k.own(name)
	switch {
	case k.x.IntN(50) == 0:
		return rare(k.x)
	case len(own) > 0:
		return pick(k.x, own...)
	}
	return pick(k.x, usual(name)...)
}

// add puts a line with a command of one of some kinds behind the script.
func (k *clerk) add(kinds ...int) {
	kind := pick(k.x, kinds...)
	p := phrases[slices.IndexFunc(phrases, func(p phrase) bool { return p.kind == kind })]
	var numbers []int
	for _, name := range p.numbers {
		numbers = append(numbers, k.number(p, name))
	}
	k.write(line(p.word, numbers...))
}

func (k *clerk) write(line string) {
	c, _ := retoldParse(line)
	word, _, _ := strings.Cut(line, " ")
	k.l = append(k.l, line)
	k.told = append(k.told, k.r.do(word, c.A.Args))
}

// kindsFrom are those of the language from one to another one.
func kindsFrom(lo, hi int) []int {
	var l []int
	for _, p := range phrases {
		if lo <= p.kind && p.kind <= hi {
			l = append(l, p.kind)
		}
	}
	return l
}

// foundations are lines of which most are at the beginning of a random script.
func foundations() []string {
	return strings.Split(`give 1
give 2
mark 3 2 0 0 0 0 0
give 4
pasture 1 0 359
pasture 2 90 270
pasture 3 270 90
byelaw 70 1 0 60 12 1 0 0 0 0 0 0
byelaw 71 2 0 60 0 12 0 0 0 0 0 0
byelaw 72 1 360 12 60 3600 1 2 3 4 5 6
pen 10
pen 6
pen 20
kind 1 5 8 0
kind 2 4 6 2
kind 3 10 1 0
sort 1
sort 2
tariff 0 5 20 10
rate 0 1 12 4
rate 0 2 20 5
tariff 360 20 30 30
rate 360 3 12 4
surety 1 100 100
surety 2 50 60
surety 3 30 500
plaint 1 2 0 100 1 2 1 1
plaint 2 3 0 60 2 2 2 2
plaint 3 1 0 100 5 8 4 2
backs 1 2
backs 2 3
names 1 5
counted 1
counted 2
counted 3
counted 4`, "\n")
}

// A theme is what a script is about: the lines that it begins with, behind the foundations; the kinds of what is done then; and those of what is asked.
type theme struct {
	begin     []string
	do, asked []int
}

// themes are the parts of a manor's business, and at the end all of it.
func themes() []theme {
	herd := []string{"born 0 0 0 1 1 1 0", "stray 0 1 1 2 1", "stray 0 1 2 3 2", "seen 0 1 2 2 31 31 31 31 31 1", "born 1 0 0 1 1 2 0"}
	land := []string{"hold 0 0 0 1 1", "hold 0 0 0 2 2", "right 0 1 1 1 1 300", "right 0 1 1 2 2 120", "hold 1 0 0 1 4", "right 1 0 0 1 1 60"}
	pound := []string{"held 0 1 1 1 1 20 500 9", "held 0 2 2 2 2 10 40 0", "claimed 0 3 3 1 2", "held 1 1 3 1 3 5 0 4"}
	ride := []string{"impound 0 1", "impound 0 2", "impound 1 3", "send 0 1 1", "dry 0", "out 0 1", "born 0 0 0 1 1 1 0", "ask 1 0"}
	return []theme{
		{herd, slices.Concat(kindsFrom(21, 25), kindsFrom(21, 26), kindsFrom(1, 5), []int{46, 17}), slices.Concat(kindsFrom(71, 78), kindsFrom(84, 87))},
		{land, slices.Concat(kindsFrom(31, 38), kindsFrom(6, 7), []int{46}), kindsFrom(81, 86)},
		{pound, slices.Concat(kindsFrom(41, 46), kindsFrom(11, 16)), kindsFrom(94, 105)},
		{ride, slices.Concat(kindsFrom(51, 54), kindsFrom(61, 69), kindsFrom(63, 69), []int{68, 68, 67, 67, 65, 65, 55, 21}), kindsFrom(106, 109)},
		{nil, kindsFrom(8, 10), kindsFrom(91, 93)},
		{slices.Concat(herd, land, pound), kindsFrom(1, 69), kindsFrom(71, 109)},
	}
}

// randomScript is one about a theme.
func randomScript(x *rand.Rand, about theme, lines int) *clerk {
	k := &clerk{x: x, r: newRetold()}
	for _, line := range slices.Concat(foundations(), about.begin) {
		if x.IntN(15) > 0 {
			k.write(line)
		}
	}
	for len(k.l) < lines {
		if x.IntN(2) == 0 {
			k.add(about.do...)
		} else {
			k.add(about.asked...)
		}
	}
	return k
}

// command is that of a line.
func command(t *testing.T, line string) api.Command {
	t.Helper()
	c, n, e := court.Parse(line)
	if e != api.OK || n != 0 {
		t.Fatalf("Parse of %q: %d, %d", line, n, e)
	}
	return c
}

// do does a line and returns its answer as one text.
func do(t *testing.T, d *court.Court, line string) string {
	t.Helper()
	return strings.Join(d.Do(command(t, line)), "\n")
}

// wantTold wants the answers of lines, each behind a colon; a line without one is to be answered with anything but an error. The lines of an answer are parted by slashes.
func wantTold(t *testing.T, d *court.Court, lines ...string) {
	t.Helper()
	for _, line := range lines {
		line, wanted, isWanted := strings.Cut(line, ": ")
		told := strings.ReplaceAll(do(t, d, line), "\n", "/")
		switch {
		case isWanted && told != wanted:
			t.Errorf("%s: %s; want %s", line, told, wanted)
		case !isWanted && (told == "" || strings.HasPrefix(told, "error")):
			t.Errorf("%s: %s", line, told)
		}
	}
}

// after is a new court behind lines that are all answered without an error.
func after(t *testing.T, lines ...string) *court.Court {
	t.Helper()
	d := court.New()
	wantTold(t, d, lines...)
	return d
}

// stateOf has all that a court gives out.
func stateOf(d *court.Court) string {
	var l []any
	for n := range api.MaxManors {
		l = append(l, d.Office(n), d.Pound(n))
	}
	return fmt.Sprintf("%+v", append(l, d.Setting(), d.Letters(), d.Riders()))
}

// one has a result and its error in one text.
func one[T any](x T, e api.Errno) string { return fmt.Sprintf("%+v %d", x, e) }

func want[T any](t *testing.T, name string, got T, e api.Errno, wanted T, wantedE api.Errno) {
	t.Helper()
	if g, w := one(got, e), one(wanted, wantedE); g != w {
		t.Errorf("%s: %s; want %s", name, g, w)
	}
}

// results are several of one function.
type results[A, B any] struct {
	A A
	B B
}

func two[A, B any](a A, b B, e api.Errno) (results[A, B], api.Errno) { return results[A, B]{a, b}, e }

// wantTwo wants two results and an error.
func wantTwo[A, B any](t *testing.T, name string, got results[A, B], e api.Errno, a A, b B, wantedE api.Errno) {
	t.Helper()
	want(t, name, got, e, results[A, B]{a, b}, wantedE)
}

// script has lines, each with its line feed.
func script(lines ...string) string { return strings.Join(lines, "\n") + "\n" }

// outside has numbers that are not from lo to hi.
func outside(lo, hi int) []int { return []int{lo - 1, hi + 1, -api.MaxNumber, api.MaxNumber} }
