package court

import (
	"strings"

	"pinfold/api"
	"pinfold/drive"
)

// The words of the answer of `prove`.
const (
	boundWord = "bound"
	proofWord = "proof"
)

// turn is a command of a transcript, and the lines of its answer; at is the number of the command's line.
type turn struct {
	at      int
	command string
	answer  []string
}

// turnsOf are those of a paper that Open opens, ahead of them one without a command, that has what is ahead of the first command; and how many lines there are.
func turnsOf(paper string) ([]turn, int) {
	l, last := []turn{{}}, 0
	for n, line := range lines(paper) {
		if command, ok := strings.CutPrefix(line, commandMark); ok {
			l = append(l, turn{at: n, command: command})
		} else {
			x := &l[len(l)-1]
			x.answer = append(x.answer, strings.TrimPrefix(line, answerMark))
		}
		last = n
	}
	return l, last
}

// plain reports whether a line of a script is as Print writes it, or else no command at all.
func plain(line string) bool {
	c, _, e := Parse(line)
	if e != api.OK {
		return len(wordsOf(line)) > 0
	}
	printed, _ := Print(c)
	return printed == line
}

// Accept reports whether a paper is a transcript.
func Accept(paper string) (int, api.Errno) {
	text, _, n, e := Open(paper)
	if e != api.OK {
		return n, e
	}
	turns, last := turnsOf(paper)
	for _, x := range turns[1:] {
		if !plain(x.command) {
			return x.at, api.ErrProof
		}
	}
	l, n, e := read(text)
	if e != api.OK {
		// The first turn has no command, and the line 0 of the script is no line of the paper.
		return turns[n].at, e
	}
	if n := wrongLine(turns, l); n > 0 {
		return n, api.ErrSaid
	}
	if paper != "" && !strings.HasSuffix(paper, "\n") {
		return last, api.ErrSaid
	}
	return 0, api.OK
}

// wrongLine is the number of the first line that is wrong in the answers of commands, or 0.
func wrongLine(turns []turn, l []api.Command) int {
	if len(turns[0].answer) > 0 {
		return 1
	}
	d := New()
	for i, x := range turns[1:] {
		if wrong := d.wrong(l[i], x.answer); wrong >= 0 {
			return x.at + 1 + wrong
		}
	}
	return 0
}

// wrong does a command, and returns the index of the first line that is wrong, or missing, in what is said to be its answer; -1 if there is none.
func (d *Court) wrong(c api.Command, said []string) int {
	due := d.Do(c)
	if c.Kind != api.CmdProve || len(due) == 1 {
		return firstApart(due, said)
	}
	// Of the lines behind `bound` only this is asked: that they are one proof, whichever.
	if i := firstApart(due[:1], said[:min(len(said), 1)]); i >= 0 {
		return i
	}
	if len(said) == 2 && d.proves(c, said[1]) {
		return -1
	}
	return 1
}

// firstApart is the first index at which two lists differ, or one of them has ended; -1 if there is none.
func firstApart(a, b []string) int {
	for i := range max(len(a), len(b)) {
		if i >= len(a) || i >= len(b) || a[i] != b[i] {
			return i
		}
	}
	return -1
}

// proves reports whether a line is a proof for a `prove` that is answered.
func (d *Court) proves(c api.Command, line string) bool {
	beasts, ok := beastsOf(line)
	manor, owner, sort := c.Args[0], c.Args[1], c.Args[2]
	// There are no errors, for the answer is none.
	x, _ := d.drive(manor, api.When{Day: c.Args[3], Known: c.Args[4]})
	n, _ := drive.Count(x, owner, sort)
	return ok && drive.CheckProof(x, owner, sort, n.Lo, beasts) == api.OK
}

// beastsOf are the beasts of a line `proof`, and whether it is one.
func beastsOf(line string) ([]int, bool) {
	words := strings.Split(line, " ")
	var l []int
	for _, word := range words[1:] {
		n, ok := numberOf(word)
		if !ok {
			return nil, false
		}
		l = append(l, n)
	}
	return l, words[0] == proofWord
}
