package court_test

import (
	"fmt"
	"slices"
	"strings"
	"testing"

	"pinfold/api"
	"pinfold/court"
)

// wantBoth wants what Run and Transcript return of a text that both refuse.
func wantBoth(t *testing.T, text string, n int, e api.Errno) {
	t.Helper()
	got, gotE := two(court.Run(text))
	wantTwo(t, fmt.Sprintf("Run of %.100q", text), got, gotE, "", n, e)
	got, gotE = two(court.Transcript(text))
	wantTwo(t, fmt.Sprintf("Transcript of %.100q", text), got, gotE, "", n, e)
}

// wantRun wants what a script tells, and its transcript.
func wantRun(t *testing.T, text, told, paper string) {
	t.Helper()
	got, e := two(court.Run(text))
	wantTwo(t, fmt.Sprintf("Run of %.100q", text), got, e, told, 0, api.OK)
	got, e = two(court.Transcript(text))
	wantTwo(t, fmt.Sprintf("Transcript of %.100q", text), got, e, paper, 0, api.OK)
}

// P10.2: all lines that say something are done, each line of each answer has a line feed.
func TestRun(t *testing.T) {
	wantRun(t, "", "", "")
	wantRun(t, "\n\n   \n# clear\n#\n", "", "")
	wantRun(t, "clear", "ok\n", "> clear\n< ok\n")
	wantRun(t, "clear\n", "ok\n", "> clear\n< ok\n")
	wantRun(t, "\n  counted   7 \n#x\n   \ncounted 7\nrecords\n\nprove 0 5 1 0 0", "ok\nerror 1\nrecords 0\nrecords 0\nrecords 0\nrecords 0\nrecords 0\nrecords 0\nbound 0\nproof\n",
		"> counted 7\n< ok\n> counted 7\n< error 1\n> records\n< records 0\n< records 0\n< records 0\n< records 0\n< records 0\n< records 0\n> prove 0 5 1 0 0\n< bound 0\n< proof\n")
	wantRun(t, "#"+strings.Repeat("x", 300)+"\n"+strings.Repeat(" ", 300)+"\nclear\n", "ok\n", "> clear\n< ok\n")
}

// P10.2: a new court is at the beginning of each script.
func TestRunsAlone(t *testing.T) {
	for range 2 {
		wantRun(t, "sort 1\nstray 0 1 1 1 1\nimpound 0 7\n", "ok\nrecord 0 0\nok\n", "> sort 1\n< ok\n> stray 0 1 1 1 1\n< record 0 0\n> impound 0 7\n< ok\n")
	}
}

// P10.2: the first line that is wrong is told, by its number among all lines.
func TestRunOfWrongLines(t *testing.T) {
	for _, word := range []string{"x", "clear 1", "pen", "pen x", "\tclear", "clear\r", " # clear", "records 01", "\x00"} {
		wantBoth(t, word, 1, api.ErrWords)
		wantBoth(t, "clear\n\n#\n"+word+"\nclear\n", 4, api.ErrWords)
		wantBoth(t, word+"\n"+word, 1, api.ErrWords)
		wantBoth(t, "clear\n"+word+"\n"+strings.Repeat("x", 201), 2, api.ErrWords)
		wantBoth(t, "clear\n"+strings.Repeat("x", 201)+"\n"+word, 2, api.ErrLong)
	}
	wantBoth(t, "\n"+strings.Repeat(" ", 200)+"clear", 2, api.ErrLong)
	wantRun(t, "\n"+strings.Repeat(" ", 195)+"clear", "ok\n", "> clear\n< ok\n")
}

// P10.2: a script has at most 25000 bytes, and 120 lines that say something; that goes ahead of what is wrong in a line.
func TestLongScripts(t *testing.T) {
	most := strings.Repeat("clear\n", api.MaxLines)
	told, paper := strings.Repeat("ok\n", api.MaxLines), strings.Repeat("> clear\n< ok\n", api.MaxLines)
	wantRun(t, most, told, paper)
	wantRun(t, most+"#\n\n  \n"+strings.Repeat("#\n", 500), told, paper)
	for _, line := range []string{"clear", "x", "clear x", strings.Repeat("x", 201)} {
		wantBoth(t, most+line, 0, api.ErrLong)
		wantBoth(t, line+"\n"+most, 0, api.ErrLong)
	}
	wantBoth(t, strings.Repeat("x\n", api.MaxLines), 1, api.ErrWords)
	wantBoth(t, strings.Repeat("x\n", api.MaxLines+1), 0, api.ErrLong)
	fill := "#" + strings.Repeat("x", api.MaxScript-len(most)-1)
	wantRun(t, most+fill, told, paper)
	wantRun(t, fill[:len(fill)-1]+"\n"+most, told, paper)
	wantBoth(t, most+fill+"\n", 0, api.ErrLong)
	wantBoth(t, most+fill+"x", 0, api.ErrLong)
	wantBoth(t, strings.Repeat("\n", api.MaxScript+1), 0, api.ErrLong)
	wantRun(t, strings.Repeat("\n", api.MaxScript), "", "")
	wantBoth(t, "x\n"+strings.Repeat(" ", api.MaxScript), 0, api.ErrLong)
}

// P10.2: random scripts tell what their lines tell one behind the other, and their transcripts are opened again.
func TestTranscriptsOfRandomScripts(t *testing.T) {
	for seed := range uint64(60) {
		x := newRandom(1000 + seed)
		k := randomScript(x, themes()[seed%6], 45+x.IntN(75))
		text, told, paper := "", "", ""
		for i, line := range k.l {
			text += pick(x, "", "", "#x\n", "\n", "  \n") + pick(x, "", " ") + strings.ReplaceAll(line, " ", pick(x, " ", "  ")) + "\n"
			told += script(k.told[i]...)
			paper += script("> "+line) + script("< "+strings.Join(k.told[i], "\n< "))
		}
		wantRun(t, text, told, paper)
		a, b, n, e := court.Open(paper)
		if a != script(k.l...) || b != told || n != 0 || e != api.OK {
			t.Error("Open: ", paper, a, b, n, e)
		}
		n, e = court.Accept(paper)
		want(t, "Accept", n, e, 0, api.OK)
	}
}

// P10.2: what stands behind the marks of a paper's lines is taken apart.
func TestOpen(t *testing.T) {
	for _, c := range []struct {
		paper, text, told string
		n                 int
		e                 api.Errno
	}{
		{"", "", "", 0, api.OK},
		{"> a", "a\n", "", 0, api.OK},
		{"< a\n> b\n< \n> \n<  c \n>   \n> # d\n< > e\n> < f\n< \t\r\x00\xff", "b\n\n  \n# d\n< f\n", "a\n\n c \n> e\n\t\r\x00\xff\n", 0, api.OK},
		{"> a\n\n", "", "", 2, api.ErrProof}, {"\n", "", "", 1, api.ErrProof}, {"> a\n>b", "", "", 2, api.ErrProof}, {">", "", "", 1, api.ErrProof}, {"<", "", "", 1, api.ErrProof}, {"<\ta", "", "", 1, api.ErrProof},
		{"> a\n< b\n # c\nx", "", "", 3, api.ErrProof}, {"# a", "", "", 1, api.ErrProof}, {" > a", "", "", 1, api.ErrProof},
		{strings.Repeat("x", api.MaxReport+1), "", "", 0, api.ErrLong}, {strings.Repeat("x", api.MaxReport), "", "", 1, api.ErrProof}, {strings.Repeat("> a\n", api.MaxReport/4) + ">", "", "", 0, api.ErrLong},
		{strings.Repeat("> a\n", api.MaxReport/4), strings.Repeat("a\n", api.MaxReport/4), "", 0, api.OK}, {"< " + strings.Repeat("a", api.MaxReport-2), "", strings.Repeat("a", api.MaxReport-2) + "\n", 0, api.OK},
	} {
		text, told, n, e := court.Open(c.paper)
		if text != c.text || told != c.told || n != c.n || e != c.e {
			t.Errorf("Open of %.100q: %.100q, %.100q, %d, %d", c.paper, text, told, n, e)
		}
	}
}

// held30 are thirty beasts, held one day after the other, of which each has an owner who pays until it is sold on its 31st day.
func held30() []string {
	l := []string{"tariff 0 1000 20 20"}
	for i := range 30 {
		day := 90000 + i
		l = append(l, line("held", 5, day, day, 7, 1, 33, 100000, 99), line("claimed", 5, day, day, 50001+2*i, 98))
	}
	return l
}

// filler is a line whose part of a transcript has so many bytes, from 60 to 152: it is refused, but as long as it is asked for.
func filler(bytes int) string {
	text := "byelaw"
	for left := 12; left > 0; left-- {
		digits := min(10, bytes-len(text)-14-1-2*(left-1))
		text += " 1" + strings.Repeat("0", digits-1)
	}
	return text
}

// longScript has a transcript of just so many bytes, which are most of what there may be.
func longScript(t *testing.T, bytes int) string {
	t.Helper()
	base := held30()
	size := func(more ...string) int {
		paper, n, e := court.Transcript(script(slices.Concat(base, more)...))
		wantTwo(t, "Transcript", results[string, int]{B: n}, e, "", 0, api.OK)
		return len(paper)
	}
	ofBase := size()
	l, left, sizes := base, bytes-ofBase, map[string]int{}
	fill := func(line string, keep int) bool {
		if sizes[line] == 0 {
			sizes[line] = size(line) - ofBase
		}
		if left-sizes[line] < keep {
			return false
		}
		l, left = append(l, line), left-sizes[line]
		return true
	}
	for fill("posts 5 90029 99999", 300) {
	}
	for day := 90029; left > 300; {
		if !fill(line("posts", 5, 0, day), 120) {
			day--
		}
	}
	return script(append(l, filler(left/2), filler(left-left/2))...)
}

// P10.2: a transcript has at most 400000 bytes, however much Run tells.
func TestLongTranscripts(t *testing.T) {
	text := longScript(t, api.MaxReport)
	paper, n, e := court.Transcript(text)
	want(t, "Transcript", n, e, 0, api.OK)
	if len(paper) != api.MaxReport {
		t.Fatal(len(paper), strings.Count(text, "\n"))
	}
	n, e = court.Accept(paper)
	want(t, "Accept", n, e, 0, api.OK)
	n, e = court.Accept(paper + "> clear\n< ok\n")
	want(t, "Accept of more", n, e, 0, api.ErrLong)
	for _, more := range []int{1, 2, 100} {
		text := longScript(t, api.MaxReport+more)
		got, e := two(court.Transcript(text))
		wantTwo(t, "Transcript", got, e, "", 0, api.ErrLong)
		told, n, e := court.Run(text)
		want(t, "Run", n, e, 0, api.OK)
		if len(told)+2*strings.Count(told, "\n")+len(text)+2*strings.Count(text, "\n") != api.MaxReport+more {
			t.Error(more, len(told))
		}
	}
}
