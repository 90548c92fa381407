package march_test

import (
	"fmt"
	"math/rand/v2"
	"strings"
	"testing"

	"pinfold/api"
	"pinfold/march"
)

// wantParse wants what the chapter says of a text.
func wantParse(t *testing.T, text string) {
	t.Helper()
	got, e := two(march.Parse(text))
	wanted, wantedE := retoldParse(text)
	want(t, fmt.Sprintf("Parse %.300q", text), got, e, wanted, wantedE)
}

// P9.1, P9.6: the text of a pound, from which the pound is read again.
func TestPrintAndParse(t *testing.T) {
	one := func(p api.Pound) {
		name := fmt.Sprint("Print ", p)
		text, e := march.Print(p)
		want(t, name, text, e, retoldPrint(p), api.OK)
		again, e := two(march.Parse(text))
		want(t, name, again, e, pair[api.Pound, int]{A: p}, api.OK)
		wantParse(t, text)
	}
	each(600, func(_ *rand.Rand, p api.Pound) { one(p) })
	for _, p := range append(manyPounds(), full(), filled(busy(), 199), api.Pound{}, api.Pound{Me: 5}) {
		one(p)
	}
	text, e := march.Print(busy())
	want(t, "Print", text, e, "pound 2 6\npound 7\npound 8\nsend 8 1 1\npound 9\nsend 9 3 2\ncall 9 3 2\ntake 10 4 5\nrefuse 11 4 6\n", api.OK)
	text, e = march.Print(with(busy(), en(api.EnRelease, 7), en(api.EnDone, 8, 1, 1), en(api.EnBack, 9, 3, 2)))
	if e != api.OK || !strings.HasSuffix(text, "refuse 11 4 6\nrelease 7\ndone 8 1 1\nback 9 3 2\n") {
		t.Error(text, e)
	}
	for _, p := range badPounds() {
		text, e := march.Print(p)
		want(t, fmt.Sprintf("Print %.300v", p), text, e, "", api.ErrJournal)
	}
}

// P9.1: the longest text of a pound is short enough to be read.
func TestLongestText(t *testing.T) {
	p := api.Pound{Me: 5, Firm: 200}
	for no := 1; no <= 200; no++ {
		p.Journal = append(p.Journal, en(api.EnRefuse, 9999, 4, no))
	}
	text, e := march.Print(p)
	wantErrno(t, "Print", e, api.OK)
	again, e := two(march.Parse(text))
	want(t, "Parse", again, e, pair[api.Pound, int]{A: p}, api.OK)
}

// wrongLines have another form than a line of an entry.
func wrongLines() []string {
	l := []string{"", " ", "#", "# pound 7", "pound", "pound ", " pound 7", "pound  7", "pound 7 ", "pound\t7", "pound 7\r", "Pound 7", "pounds 7", "poun 7", "7", "7 7", "pound 7 0 0", "pound 1 7", "release 7 1", "release 7 1 1", "release",
		"pound 07", "pound 00", "pound +7", "pound -7", "pound -0", "pound 7.0", "pound 0x7", "pound 1e1", "pound 1_0", "pound seven", "pound 100000", "pound 99999999999999999999", "pound 000007", "pound ٧", "pound 7,", "pound 7;", "pound 7\x00",
		" 7", " 7 1 1", "enter 7", "0 7 1 1", "3 7 1 1"}
	for _, word := range []string{"send", "call", "done", "back", "take", "refuse"} {
		l = append(l, word, word+" 8", word+" 8 1", word+" 8 1 1 1", word+"  8 1 1", word+" 8  1 1", word+" 8 1  1", word+" 8 1 1 ", " "+word+" 8 1 1", word+" 8 1 -1", word+" 8 -1 1", word+" -8 1 1", word+" 8 01 1", word+" 8 1 01", word+" 08 1 1", word+" 8 1 100000", word+" 8 100000 1", word+" 100000 1 1",
			strings.ToUpper(word)+" 8 1 1", word+"s 8 1 1", word+" 8 1 x", word+" 8 x 1", word+" x 1 1", word+" +8 1 1")
	}
	return l
}

// P9.1: the first line of another form is the one whose number is told.
func TestParseOfWrongLines(t *testing.T) {
	for _, line := range wrongLines() {
		for _, c := range []struct {
			text string
			at   int
		}{
			{line + "\n", 1},
			{"pound 2 0\n" + line + "\n", 2},
			{"pound 2 0\n" + line + "\npound\n", 2},
			{"pound 99999 99999\nsend 0 0 0\n" + line + "\nrelease 5\n", 3},
			{"pound 2 1\npound 8\nsend 8 1 1\n" + line + "\n", 4},
			{"pound 2 1\npound 8\nsend 8 1 1\n" + line + "\n" + line + "\n", 4},
		} {
			p, n, e := march.Parse(c.text)
			if c.at == 1 && line == "pound 1 7" {
				// As a first line this one has the form; there are not so many entries.
				c.at = 0
			}
			wanted := api.ErrText
			if c.at == 0 {
				wanted = api.ErrJournal
			}
			want(t, fmt.Sprintf("Parse %q", c.text), pair[api.Pound, int]{p, n}, e, pair[api.Pound, int]{B: c.at}, wanted)
			wantParse(t, c.text)
		}
	}
}

// P9.1: first lines of another form, and texts that end too early.
func TestParseOfWrongTexts(t *testing.T) {
	for text, at := range map[string]int{
		"": 1, "\n": 1, "pound 0 0": 1, "pound 0 0\n\n": 2, "pound 0 0\npound 7": 2, "pound 0 1\npound 7\nsend 7 1 1": 3, "pound 0 1\npound 7\nsend 7 1": 3, "pound 0 1\npound 7\n ": 3,
		"\npound 0 0\n": 1, "#\npound 0 0\n": 1, "pound 7\n": 1, "pound\n": 1, "send 7 1\n": 1, "release 0 0\n": 1, "pound 0 0 0\n": 1, "pound  0 0\n": 1, "pound 0  0\n": 1, " pound 0 0\n": 1, "pound 0 0 \n": 1,
		"pound 00 0\n": 1, "pound 0 00\n": 1, "pound -0 0\n": 1, "pound 0 -1\n": 1, "pound +1 0\n": 1, "pound 0 0\r\n": 1, "pound 0\t0\n": 1, "pound 100000 0\n": 1, "pound 0 100000\n": 1, "pound 0 x\n": 1, "0 0\n": 1, "pound 0 0\x00\n": 1,
		"pound 0 0\npound 0 0\n": 2, "pound 0 0\r\npound 7\n": 1, "pound 0 0\npound 7\n\npound 8\n": 3, strings.Repeat("\n", 8000): 1, strings.Repeat("x", 8000): 1,
	} {
		p, n, e := march.Parse(text)
		want(t, fmt.Sprintf("Parse %.300q", text), pair[api.Pound, int]{p, n}, e, pair[api.Pound, int]{B: at}, api.ErrText)
		wantParse(t, text)
	}
}

// P9.1: texts that have the form, of what is no pound.
func TestParseOfWrongPounds(t *testing.T) {
	l := []string{"pound 6 0\n", "pound 99999 0\n", "pound 0 1\n", "pound 0 99999\n", "pound 0 0\npound 0\n", "pound 0 0\npound 99999\n", "pound 0 0\nsend 7 1 1\n", "pound 0 2\npound 7\n", "pound 0 0\npound 7\npound 7\n",
		"pound 0 0\nrefuse 7 0 1\n", "pound 0 0\ntake 7 6 1\n", "pound 0 0\ntake 7 1 0\n", "pound 0 0\ntake 7 1 201\n", "pound 0 0\n" + strings.Repeat("pound 7\nrelease 7\n", 101), "pound 0 0\n" + strings.Repeat("pound 7\n", 998)}
	for _, text := range l {
		p, n, e := march.Parse(text)
		want(t, fmt.Sprintf("Parse %.300q", text), pair[api.Pound, int]{p, n}, e, pair[api.Pound, int]{}, api.ErrJournal)
		wantParse(t, text)
	}
}

// P9.1: a text may have so many bytes, and no more, whatever is wrong with it.
func TestParseOfLongTexts(t *testing.T) {
	lines := "pound 0 0\n" + strings.Repeat("pound 7\n", 998)
	for text, wanted := range map[string]api.Errno{
		lines + "back\n":                       api.ErrText,
		lines + "take\n ":                      api.ErrText,
		lines + "pound\n":                      api.ErrText,
		lines + "release 7\n":                  api.ErrLong,
		strings.Repeat("x", 8000):              api.ErrText,
		strings.Repeat("x", 8001):              api.ErrLong,
		strings.Repeat("\n", 8001):             api.ErrLong,
		strings.Repeat("pound 0 0\n", 1000000): api.ErrLong,
	} {
		_, _, e := march.Parse(text)
		wantErrno(t, fmt.Sprintf("Parse of %d bytes", len(text)), e, wanted)
		wantParse(t, text)
	}
}

// P9.1: texts with any one byte changed, left out, doubled or exchanged with the next one.
func TestParseOfChangedTexts(t *testing.T) {
	for _, p := range []api.Pound{busy(), {Me: 5}, with(busy(), en(api.EnBack, 9, 3, 2), en(api.EnSend, 9, 0, 3), en(api.EnDone, 8, 1, 1), en(api.EnRelease, 7))} {
		text := retoldPrint(p)
		for i := range text {
			wantParse(t, text[:i])
			wantParse(t, text[i:])
			wantParse(t, text[:i]+text[i+1:])
			wantParse(t, text[:i]+text[i:i+1]+text[i:])
			for c := range 256 {
				wantParse(t, text[:i]+string([]byte{byte(c)})+text[i+1:])
			}
			if i > 0 {
				wantParse(t, text[:i-1]+text[i:i+1]+text[i-1:i]+text[i+1:])
			}
		}
	}
}

// P9.1: random texts of lines that may be in a pound's.
func TestParseOfRandomTexts(t *testing.T) {
	each(3000, func(x *rand.Rand, p api.Pound) {
		lines := strings.SplitAfter(retoldPrint(p), "\n")
		for range 1 + x.IntN(3) {
			i := x.IntN(len(lines))
			switch x.IntN(5) {
			case 0:
				lines[i] = pick(x, lines...)
			case 1:
				lines[i] = strings.Replace(lines[i], pick(x, " ", "1", "2", "\n"), pick(x, "", " ", "0", "1", "\n", "99999"), 1)
			case 2:
				lines[i] += lines[i]
			case 3:
				lines[i] = ""
			case 4:
				lines[i] = pick(x, wrongLines()...) + "\n"
			}
		}
		wantParse(t, strings.Join(lines, ""))
	})
}
