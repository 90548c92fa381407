package court_test

import (
	"fmt"
	"math/rand/v2"
	"regexp"
	"slices"
	"strconv"
	"strings"
	"testing"

	"pinfold/api"
	"pinfold/court"
	"pinfold/drive"
)

var proofForm = regexp.MustCompile(`^proof( (0|-?[1-9][0-9]*))*$`)

// retoldProof reports whether a line of a paper is a proof for a `prove` with these numbers.
func (r *retold) retoldProof(n []int, line string) bool {
	text, ok := strings.CutPrefix(line, "< ")
	if !ok || !proofForm.MatchString(text) {
		return false
	}
	var beasts []int
	for _, word := range strings.Split(text, " ")[1:] {
		no, _ := strconv.Atoi(word)
		beasts = append(beasts, no)
	}
	d, _ := r.drive(n, n[3], n[4])
	bound, _ := drive.Count(d, n[1], n[2])
	return drive.CheckProof(d, n[1], n[2], bound.Lo, beasts) == api.OK
}

// retoldAccept goes along the lines of a paper, as the chapter tells it.
func retoldAccept(paper string) (int, api.Errno) {
	if len(paper) > 400000 {
		return 0, api.ErrLong
	}
	lines := strings.Split(strings.TrimSuffix(paper, "\n"), "\n")
	if paper == "" {
		lines = nil
	}
	var commands []string
	var at []int
	for i, line := range lines {
		switch {
		case strings.HasPrefix(line, "> "):
			commands, at = append(commands, line[2:]), append(at, 1+i)
		case !strings.HasPrefix(line, "< "):
			return 1 + i, api.ErrProof
		}
	}
	for i, text := range commands {
		c, e := retoldParse(text)
		p, _ := phraseOf(strings.Split(text, " ")[0])
		if retoldSaysNothing(text) || e == api.OK && line(p.word, c.A.Args...) != text {
			return at[i], api.ErrProof
		}
	}
	if len(commands) > 120 || len(strings.Join(commands, ""))+len(commands) > 25000 {
		return 0, api.ErrLong
	}
	for i, text := range commands {
		if _, e := retoldParse(text); e != api.OK {
			return at[i], e
		}
	}
	wrong := retoldWrong(lines, commands)
	switch {
	case wrong > 0:
		return wrong, api.ErrSaid
	case paper != "" && paper[len(paper)-1] != '\n':
		return len(lines), api.ErrSaid
	}
	return 0, api.OK
}

// retoldWrong is the number of the first line that is wrong, or 0.
func retoldWrong(lines, commands []string) int {
	r := newRetold()
	next := 0
	is := func(wanted string) bool {
		next++
		return next <= len(lines) && lines[next-1] == wanted
	}
	for _, text := range commands {
		c, _ := retoldParse(text)
		word := strings.Split(text, " ")[0]
		if !is("> " + text) {
			return next
		}
		answer := r.do(word, c.A.Args)
		if word == "prove" && len(answer) == 2 {
			if !is("< " + answer[0]) {
				return next
			}
			end := next
			for end < len(lines) && lines[end][0] == '<' {
				end++
			}
			if end != next+1 || !r.retoldProof(c.A.Args, lines[next]) {
				return next + 1
			}
			next = end
			continue
		}
		for _, line := range answer {
			if !is("< " + line) {
				return next
			}
		}
	}
	if next < len(lines) {
		return next + 1
	}
	return 0
}

// wantAccept wants what Accept returns, and the retelling, too.
func wantAccept(t *testing.T, paper string, n int, e api.Errno) {
	t.Helper()
	got, gotE := court.Accept(paper)
	want(t, fmt.Sprintf("Accept of %.300q", paper), got, gotE, n, e)
	got, gotE = retoldAccept(paper)
	want(t, fmt.Sprintf("retold Accept of %.300q", paper), got, gotE, n, e)
}

// P10.2: papers that are transcripts, and the first line that is wrong in those that are none.
func TestAccept(t *testing.T) {
	for _, c := range []struct {
		paper string
		n     int
		e     api.Errno
	}{
		{"", 0, api.OK}, {"> clear\n< ok\n", 0, api.OK}, {"> pen 5\n< ok\n> pen 1001\n< error 50\n", 0, api.OK},
		{"> clear\n< ok", 2, api.ErrSaid}, {"> clear", 2, api.ErrSaid}, {"> clear\n", 2, api.ErrSaid}, {"> clear\n> clear\n< ok\n", 2, api.ErrSaid}, {"> clear\n< ok\n> clear", 4, api.ErrSaid},
		{"> clear\n< none\n", 2, api.ErrSaid}, {"> clear\n< ok \n", 2, api.ErrSaid}, {"> clear\n<  ok\n", 2, api.ErrSaid}, {"> clear\n< \n", 2, api.ErrSaid}, {"> clear\n< ok\n< ok\n", 3, api.ErrSaid}, {"> clear\n< ok\n< ok", 3, api.ErrSaid}, {"> clear\n< none\n< ok", 2, api.ErrSaid},
		{"< ok\n", 1, api.ErrSaid}, {"< ok\n> clear\n< ok\n", 1, api.ErrSaid}, {"< ok", 1, api.ErrSaid},
		{"> records\n< records 0\n< records 0\n< records 0\n< records 0\n< records 0\n< records 0\n", 0, api.OK}, {"> records\n< records 0\n< records 0\n< records 0\n< records 0\n< records 0\n> clear\n< ok\n", 7, api.ErrSaid},
		{"> records\n< records 0\n< records 0\n< records 1\n< records 0\n< records 0\n< records 0\n", 4, api.ErrSaid},
		// What is no paper goes ahead of all else.
		{"> x\nclear\n", 2, api.ErrProof}, {"> clear\n< ok\n\n", 3, api.ErrProof}, {"\n", 1, api.ErrProof}, {strings.Repeat("\n", api.MaxReport+1), 0, api.ErrLong},
		// So do lines that say nothing, or are written in another way, of what is no command.
		{"> \n", 1, api.ErrProof}, {">    \n", 1, api.ErrProof}, {"> # clear\n", 1, api.ErrProof}, {"> clear\n< ok\n> #\n", 3, api.ErrProof}, {">  clear\n< ok\n", 1, api.ErrProof}, {"> clear \n< ok\n", 1, api.ErrProof}, {"> pen  5\n< ok\n", 1, api.ErrProof},
		{"> x\n< ok\n> pen  5\n< ok\n", 3, api.ErrProof}, {"> clear\n< none\n> # \n", 3, api.ErrProof}, {"> " + strings.Repeat(" ", 300) + "\n", 1, api.ErrProof}, {"> x\n< ok\n> \n", 3, api.ErrProof},
		{strings.Repeat("> x\n< ok\n", 121) + "> clear \n", 243, api.ErrProof},
		// Then what is no script.
		{"> x\n< ok\n", 1, api.ErrWords}, {"> clear\n< none\n< a\n> pen\n", 4, api.ErrWords}, {"> pen 01\n", 1, api.ErrWords}, {"> clear 1\n", 1, api.ErrWords}, {"> clear\r\n< ok\n", 1, api.ErrWords}, {"< ok\n> x\n", 2, api.ErrWords},
		{"> clear\n< ok\n> " + strings.Repeat(" ", 200) + "clear\n", 3, api.ErrLong}, {"> " + strings.Repeat("x", 201) + "\n> x\n", 1, api.ErrLong}, {"> x\n> " + strings.Repeat("x", 201) + "\n", 1, api.ErrWords},
		{strings.Repeat("> clear\n< ok\n", 120), 0, api.OK}, {strings.Repeat("> clear\n< ok\n", 121), 0, api.ErrLong}, {strings.Repeat("> x\n", 121), 0, api.ErrLong}, {strings.Repeat("> x\n", 120), 1, api.ErrWords}, {strings.Repeat("> clear\n", 120), 2, api.ErrSaid},
		{"> x" + strings.Repeat("x", 24998) + "\n", 1, api.ErrLong}, {"> x" + strings.Repeat("x", 24999) + "\n", 0, api.ErrLong}, {"> x\n> x" + strings.Repeat("x", 24999), 0, api.ErrLong}, {"> x\n> x" + strings.Repeat("x", 24996), 1, api.ErrWords},
	} {
		wantAccept(t, c.paper, c.n, c.e)
	}
}

// driven has a drive of which several lists of beasts prove the same: 1, 2 and 3 are of the owner 5; 4, 5 and 6 may be of 5 or 6.
var driven = []string{
	"give 5: ok", "give 6: ok", "born 0 1 1 1 1 5 0: record 0 0", "born 0 1 1 2 1 5 0: record 0 1", "stray 0 1 1 4 1: record 0 2", "seen 0 1 1 4 1 1 1 1 1 3: record 0 3", "stray 0 1 1 5 1: record 0 4",
	"born 0 1 1 3 1 5 0: record 0 5", "born 0 1 1 9 2 5 0: record 0 6", "counted 1: ok", "counted 2: ok", "counted 4: ok", "counted 5: ok", "counted 9: ok",
}

// proved is a paper of driven and a `prove`, with these lines behind it.
func proved(command string, lines ...string) string {
	var l []string
	for _, line := range driven {
		text, answer, _ := strings.Cut(line, ": ")
		l = append(l, "> "+text, "< "+answer)
	}
	return script(append(append(l, "> "+command), lines...)...)
}

// P10.2: any beasts that show as much are a proof, but nothing else is one.
func TestAcceptOfProofs(t *testing.T) {
	n := 2*len(driven) + 1
	for _, proof := range []string{"1 2", "1 2 4 5"} {
		wantAccept(t, proved("prove 0 5 1 1 1", "< bound 2", "< proof "+proof), 0, api.OK)
		wantAccept(t, proved("prove 0 5 1 1 1", "< bound 2", "< proof "+proof, "> clear", "< ok"), 0, api.OK)
		wantAccept(t, strings.TrimSuffix(proved("prove 0 5 1 1 1", "< bound 2", "< proof "+proof), "\n"), n+2, api.ErrSaid)
		for _, more := range []string{"< proof " + proof, "< proof", "< ", "< none"} {
			wantAccept(t, proved("prove 0 5 1 1 1", "< bound 2", "< proof "+proof, more), n+2, api.ErrSaid)
			wantAccept(t, proved("prove 0 5 1 1 1", "< bound 2", "< proof "+proof, more, "> clear", "< ok"), n+2, api.ErrSaid)
		}
		wantAccept(t, proved("prove 0 5 1 1 1", "< bound 1", "< proof "+proof), n+1, api.ErrSaid)
		wantAccept(t, proved("prove 0 5 1 1 1", "< proof "+proof, "< bound 2"), n+1, api.ErrSaid)
		wantAccept(t, proved("prove 0 5 1 1 1", "< proof "+proof), n+1, api.ErrSaid)
	}
	for _, line := range []string{"proof", "proof 1", "proof 2 1", "proof 1 2 9", "proof 1 2 3", "proof 1 1 2", "proof 4 5", "proof 1 4 5", "proof 1 2 4", "proof 1 2 5", "proof 01 2", "proof 1  2", "proof 1 2 ", "proof  1 2", " proof 1 2", "proof 1 2 x", "proof +1 2", "proof 1 2\r", "proofs 1 2", "bound 1 2", "1 2", "", "none", "proof none", "error 1",
		"proof -1 1 2", "proof 0 1 2", "proof 1 2 9223372036854775808", "proof 1 2 18446744073709551620", "Proof 1 2", "proof\t1 2", "proof 1 2 10000"} {
		wantAccept(t, proved("prove 0 5 1 1 1", "< bound 2", "< "+line), n+2, api.ErrSaid)
	}
	wantAccept(t, proved("prove 0 5 1 1 1", "< bound 2"), n+2, api.ErrSaid)
	wantAccept(t, proved("prove 0 5 1 1 1", "< bound 2", "> clear", "< ok"), n+2, api.ErrSaid)
	wantAccept(t, proved("prove 0 5 1 1 1"), n+1, api.ErrSaid)
	wantAccept(t, proved("prove 0 5 1 1 1", "> clear", "< ok"), n+1, api.ErrSaid)
	wantAccept(t, proved("prove 0 6 1 1 1", "< bound 0", "< proof"), 0, api.OK)
	for _, proof := range []string{"proof 4", "proof 4 5", "proof 1", "proof 1 2 4 5", "proof 3", "proof 6", "proof 2 1", "proof 9", "proof 0"} {
		wantAccept(t, proved("prove 0 6 1 1 1", "< bound 0", "< "+proof), n+2, api.ErrSaid)
	}
	wantAccept(t, proved("prove 0 5 1 1 0", "< bound 0", "< proof"), 0, api.OK)
	wantAccept(t, proved("prove 1 5 1 1 1", "< bound 0", "< proof"), 0, api.OK)
	wantAccept(t, proved("prove 1 5 1 1 1", "< bound 0", "< proof 1"), n+2, api.ErrSaid)
}

// P10.2: an answer of `prove` that is an error is as it is; what was counted is as of the command.
func TestAcceptOfProofsThatAreRefused(t *testing.T) {
	n := 2*len(driven) + 1
	wantAccept(t, proved("prove 0 0 1 1 1", "< error 1"), 0, api.OK)
	for _, line := range []string{"< bound 0", "< error 2", "< proof"} {
		wantAccept(t, proved("prove 0 0 1 1 1", line), n+1, api.ErrSaid)
		wantAccept(t, proved("prove 0 0 1 1 1", line, "< proof"), n+1, api.ErrSaid)
	}
	wantAccept(t, proved("prove 0 0 1 1 1", "< error 1", "< proof"), n+2, api.ErrSaid)
	wantAccept(t, proved("prove 0 0 1 1 1", "< error 1", "< proof", "< proof"), n+2, api.ErrSaid)
	wantAccept(t, proved("prove 6 5 1 1 1", "< error 1"), 0, api.OK)
	wantAccept(t, proved("clear", "< ok", "> prove 0 5 1 1 1", "< bound 0", "< proof"), 0, api.OK)
	wantAccept(t, proved("clear", "< ok", "> prove 0 5 1 1 1", "< bound 0", "< proof 1"), n+4, api.ErrSaid)
	wantAccept(t, proved("prove 0 5 1 1 1", "< bound 2", "< proof 1 2 4 5", "> clear", "< ok", "> prove 0 5 1 1 1", "< bound 0", "< proof"), 0, api.OK)
}

// randomPaper is the transcript of a random script.
func randomPaper(t *testing.T, seed uint64) string {
	t.Helper()
	x := newRandom(2000 + seed)
	k := randomScript(x, themes()[seed%6], 35+x.IntN(60))
	l := k.l
	if seed%2 == 0 {
		// The beginning of a script is one, too.
		l = l[:x.IntN(len(l))]
	}
	paper, n, e := court.Transcript(script(l...))
	want(t, "Transcript", n, e, 0, api.OK)
	return paper
}

// changed is a paper in which something is another way.
func changed(x *rand.Rand, paper string) string {
	l := strings.Split(strings.TrimSuffix(paper, "\n"), "\n")
	i, k := x.IntN(len(l)), x.IntN(len(l))
	switch x.IntN(9) {
	case 0:
		l = slices.Delete(l, i, i+1)
	case 1:
		l = slices.Insert(l, i, l[i])
	case 2:
		l[i], l[k] = l[k], l[i]
	case 3:
		l = slices.Insert(l, i, pick(x, "< ok", "< none", "> clear", "> records", "> give 9", "> # x", "", "> x", "> prove 0 1 1 5 5", "< error 1"))
	case 4:
		l[i] += pick(x, " ", "0", " 1", "\r")
	case 5:
		l[i] = strings.Replace(l[i], pick(x, " ", "1", "0", "2"), pick(x, "  ", "3", "", "1"), 1)
	case 6:
		return strings.Join(l, "\n")
	case 7:
		return strings.Join(l[:i], "\n") + pick(x, "", "\n", "\n>", "\n<", "\n> ")
	case 8:
		i = max(0, slices.IndexFunc(l, func(line string) bool { return strings.HasPrefix(line, "< proof") }))
		l[i] = "< proof" + pick(x, "", " 1", " 2", " 1 2", " 3", " 2 3", " 1 2 3")
	}
	return script(l...)
}

// P10.2: random papers, and those in which something was changed, are accepted just as the chapter tells it.
func TestAcceptOfChangedPapers(t *testing.T) {
	accepted, refused := 0, map[api.Errno]int{}
	for seed := range uint64(72) {
		x, paper := newRandom(seed), randomPaper(t, seed)
		wantAccept(t, paper, 0, api.OK)
		for range 10 {
			other := changed(x, paper)
			if x.IntN(3) == 0 {
				other = changed(x, other+"> clear\n< ok\n")
			}
			n, e := court.Accept(other)
			wantAccept(t, other, n, e)
			if other != paper && e == api.OK {
				accepted++
			}
			refused[e]++
		}
	}
	if accepted < 20 || refused[api.ErrSaid] < 200 || refused[api.ErrProof] < 50 || refused[api.ErrWords] < 30 {
		t.Error(accepted, refused)
	}
}

// P10.4: a transcript is accepted; with any line of its answers, but those behind the first one of `prove`, left out, doubled or changed, it is refused.
func TestTranscriptsAlone(t *testing.T) {
	x := newRandom(7)
	papers := []string{proved("prove 0 5 1 1 1", "< bound 2", "< proof 1 2 4 5", "> count 0 5 1 1 1", "< 2 4")}
	for seed := range uint64(12) {
		papers = append(papers, randomPaper(t, 100+seed))
	}
	for _, paper := range papers {
		n, e := court.Accept(paper)
		want(t, "Accept", n, e, 0, api.OK)
		l := strings.Split(strings.TrimSuffix(paper, "\n"), "\n")
		for i, line := range l {
			if line[0] == '>' || strings.HasPrefix(line, "< proof") {
				continue
			}
			others := [][]string{slices.Delete(slices.Clone(l), i, i+1), slices.Insert(slices.Clone(l), i, line)}
			for range 2 {
				text := pick(x, line+" ", line+"0", "< ", "< none", "< ok", "< error 1", "< bound 0", "< 0", "> clear", "> "+line[2:], line[1:], line[:len(line)-1], "")
				if text != line {
					others = append(others, slices.Concat(l[:i], []string{text}, l[i+1:]))
				}
			}
			for k, other := range others {
				if n, e := court.Accept(script(other...)); e == api.OK {
					t.Errorf("way %d at line %d, %q: %d, %d", k, 1+i, line, n, e)
				}
			}
		}
	}
}
