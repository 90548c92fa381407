package court_test

import (
	"fmt"
	"math/rand/v2"
	"slices"
	"strings"
	"testing"

	"pinfold/api"
	"pinfold/court"
)

// someNumbers are as many as a phrase has.
func someNumbers(x *rand.Rand, p phrase) []int {
	var l []int
	for range p.numbers {
		l = append(l, pick(x, 0, 1, -1, 7, 10, 99, 1000, -20, 123456789, api.MaxNumber, -api.MaxNumber))
	}
	return l
}

// P10.1: each command of the table is read, and written likewise.
func TestParseAndPrint(t *testing.T) {
	if len(phrases) != 85 {
		t.Error("the table has ", len(phrases), " words")
	}
	x := newRandom(1)
	for _, p := range phrases {
		for range 20 {
			c := api.Command{Kind: p.kind, Args: someNumbers(x, p)}
			text := line(p.word, c.Args...)
			got, e := two(court.Parse(text))
			wantTwo(t, text, got, e, c, 0, api.OK)
			printed, e := court.Print(c)
			want(t, text, printed, e, text, api.OK)
		}
	}
}

// P10.1: however many spaces there are, the line that Print returns is one with the same command.
func TestSpaces(t *testing.T) {
	for _, text := range []string{"pen 5", " pen 5", "pen 5 ", "  pen    5   ", "pen" + strings.Repeat(" ", 196) + "5"} {
		got, e := two(court.Parse(text))
		wantTwo(t, text, got, e, api.Command{Kind: api.CmdPen, Args: []int{5}}, 0, api.OK)
		printed, e := court.Print(got.A)
		want(t, text, printed, e, "pen 5", api.OK)
	}
	for _, text := range []string{"clear", " clear", "clear ", "   clear  "} {
		got, e := two(court.Parse(text))
		wantTwo(t, text, got, e, api.Command{Kind: api.CmdClear}, 0, api.OK)
	}
}

// wantWrong wants ErrWords at a word of a line.
func wantWrong(t *testing.T, text string, n int) {
	t.Helper()
	got, e := two(court.Parse(text))
	wantTwo(t, fmt.Sprintf("%q", text), got, e, api.Command{}, n, api.ErrWords)
}

// P10.1, P10.2: the first word that is wrong is told, or that is missing, or one too many.
func TestParseOfWrongWords(t *testing.T) {
	bad := []string{"x", "+1", "01", "00", "-0", "-01", "-00", "1a", "a1", "0x1", "1.0", "1e3", "1_0", "-", "--1", "1-", "\t1", "1\t", "1\r", "1\n", "\u0663", "1,2", "\"1\"",
		"1000000001", "-1000000001", "9223372036854775807", "9223372036854775808", "-9223372036854775808", "18446744073709551617", strings.Repeat("9", 40)}
	x := newRandom(2)
	for _, p := range phrases {
		words := strings.Fields(line(p.word, someNumbers(x, p)...))
		for i := range words {
			if i > 0 {
				wantWrong(t, strings.Join(words[:i], " "), i)
				wantWrong(t, strings.Join(words[:i], "  ")+"  ", i)
			}
			for _, word := range bad {
				wrong := slices.Clone(words)
				wrong[i] = word
				wantWrong(t, strings.Join(wrong, " "), i)
				// Of two words that are wrong, or one that is missing, the first one is told.
				wantWrong(t, strings.Join(wrong[:i+1], " ")+" x", i)
			}
		}
		for _, word := range append(bad, "0", "1") {
			wantWrong(t, strings.Join(append(slices.Clone(words), word), " "), len(words))
			wantWrong(t, strings.Join(append(slices.Clone(words), word, "x"), " "), len(words))
		}
		for _, word := range []string{strings.ToUpper(p.word), p.word + "s", "x" + p.word, "#" + p.word, p.word + "\n", "\t" + p.word, "x " + p.word} {
			wantWrong(t, strings.Join(append([]string{word}, words[1:]...), " "), 0)
		}
	}
}

// P10.2: a line that says nothing is wrong at the word 0.
func TestParseOfNothing(t *testing.T) {
	for _, text := range []string{"", " ", "    ", "#", "# clear", "#clear", " # clear", "\n", "\t", "\r\n", "\x00", "\xff", strings.Repeat(" ", 200)} {
		wantWrong(t, text, 0)
	}
}

// P10.2: a line has at most 200 bytes, whatever else is wrong in it.
func TestParseOfLongLines(t *testing.T) {
	for _, text := range []string{"clear", "", "x", "#", "clear x", "pen 5"} {
		for _, fill := range []string{" ", "x", "é"} {
			long := text + strings.Repeat(fill, 201)
			got, e := two(court.Parse(long))
			wantTwo(t, long, got, e, api.Command{}, 0, api.ErrLong)
		}
		most := text + strings.Repeat(" ", 200-len(text))
		got, e := two(court.Parse(most))
		wanted, wantedE := retoldParse(most)
		want(t, most, got, e, wanted, wantedE)
		got, e = two(court.Parse(most + " "))
		wantTwo(t, most, got, e, api.Command{}, 0, api.ErrLong)
	}
	long := strings.Repeat(" ", 200)
	for _, text := range []string{long + "clear", "clear" + long} {
		got, e := two(court.Parse(text))
		wantTwo(t, text, got, e, api.Command{}, 0, api.ErrLong)
	}
}

// P10.1, P10.2: lines that are made of parts of right ones are read as the chapter tells it.
func TestParseOfRandomLines(t *testing.T) {
	x := newRandom(3)
	right := 0
	for range 20000 {
		p := pick(x, phrases...)
		words := strings.Fields(line(p.word, someNumbers(x, p)...))
		for range x.IntN(3) {
			i := x.IntN(len(words))
			switch x.IntN(4) {
			case 0:
				words[i] = pick(x, "", " ", "x", "-0", "07", "7", "-1", "1000000000", "1000000001", "#", "clear", "\n", "wear")
			case 1:
				words = slices.Insert(words, i, pick(x, "0", "5", "", "x", "#"))
			case 2:
				words = slices.Concat(words[:i], words[i+1:], []string{""})
			case 3:
				words[i] += pick(x, "0", "1", " ", "  ", "#", "\t")
			}
		}
		text := strings.Join(words, " ")
		got, e := two(court.Parse(text))
		wanted, wantedE := retoldParse(text)
		want(t, fmt.Sprintf("%q", text), got, e, wanted, wantedE)
		if e != api.OK {
			continue
		}
		right++
		printed, e := court.Print(got.A)
		want(t, text, printed, e, strings.Join(strings.Fields(text), " "), api.OK)
		again, e := two(court.Parse(printed))
		want(t, printed, again, e, got, api.OK)
	}
	if right < 5000 {
		t.Error("too few right lines: ", right)
	}
}

// wrongCommands are not right.
func wrongCommands() []api.Command {
	var l []api.Command
	kinds := map[int]bool{}
	for _, p := range phrases {
		kinds[p.kind] = true
		many := len(p.numbers)
		l = append(l, api.Command{Kind: p.kind, Args: make([]int, many+1)}, api.Command{Kind: p.kind, Args: make([]int, many+100)})
		if many > 0 {
			l = append(l, api.Command{Kind: p.kind}, api.Command{Kind: p.kind, Args: make([]int, many-1)})
		}
		for i := range many {
			for _, n := range []int{api.MaxNumber + 1, -api.MaxNumber - 1, 1 << 62, -1 << 63} {
				args := make([]int, many)
				args[i] = n
				l = append(l, api.Command{Kind: p.kind, Args: args})
			}
		}
	}
	for kind := -5; kind < 130; kind++ {
		if !kinds[kind] {
			for many := range 14 {
				l = append(l, api.Command{Kind: kind, Args: make([]int, many)})
			}
		}
	}
	return append(l, api.Command{Kind: 1 << 62}, api.Command{Kind: -1 << 63})
}

// P10.2: what is not right has no line, and is not done.
func TestWrongCommands(t *testing.T) {
	d := after(t, foundations()...)
	was := stateOf(d)
	for _, c := range wrongCommands() {
		text, e := court.Print(c)
		want(t, fmt.Sprint(c), text, e, "", api.ErrWords)
		if told := fmt.Sprint(d.Do(c)); told != "[error 100]" {
			t.Errorf("%v: %s", c, told)
		}
	}
	if stateOf(d) != was {
		t.Error(stateOf(d))
	}
}
