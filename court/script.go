package court

import (
	"iter"
	"strings"

	"pinfold/api"
)

// What the lines of a transcript begin with: a command, and a line of its answer.
const (
	commandMark = "> "
	answerMark  = "< "
)

// lines yields the lines of a text, without their line feeds, by their numbers.
func lines(text string) iter.Seq2[int, string] {
	return func(yield func(n int, line string) bool) {
		n := 0
		for line := range strings.Lines(text) {
			n++
			if !yield(n, strings.TrimSuffix(line, "\n")) {
				return
			}
		}
	}
}

// read returns the commands of a script, or an error and the number of its line.
func read(text string) ([]api.Command, int, api.Errno) {
	if len(text) > api.MaxScript {
		return nil, 0, api.ErrLong
	}
	var l []api.Command
	wrong, first := 0, api.OK
	for n, line := range lines(text) {
		if len(wordsOf(line)) == 0 {
			continue
		}
		c, _, e := Parse(line)
		if first == api.OK && e != api.OK {
			wrong, first = n, e
		}
		l = append(l, c)
	}
	// That there are too many lines goes ahead of what is wrong in one of them.
	if len(l) > api.MaxLines {
		return nil, 0, api.ErrLong
	}
	if first != api.OK {
		return nil, wrong, first
	}
	return l, 0, api.OK
}

// played yields commands, one after the other, with what a new court answers.
func played(l []api.Command) iter.Seq2[api.Command, []string] {
	return func(yield func(c api.Command, answer []string) bool) {
		d := New()
		for _, c := range l {
			if !yield(c, d.Do(c)) {
				return
			}
		}
	}
}

// Run plays a script at a new court and returns what it tells.
func Run(text string) (string, int, api.Errno) {
	l, n, e := read(text)
	if e != api.OK {
		return "", n, e
	}
	var told strings.Builder
	for _, answer := range played(l) {
		write(&told, "", answer...)
	}
	return told.String(), 0, api.OK
}

// write writes lines that begin with a mark.
func write(text *strings.Builder, mark string, lines ...string) {
	for _, line := range lines {
		text.WriteString(mark + line + "\n")
	}
}

// Transcript returns the transcript of a script.
func Transcript(text string) (string, int, api.Errno) {
	l, n, e := read(text)
	if e != api.OK {
		return "", n, e
	}
	var paper strings.Builder
	for c, answer := range played(l) {
		// There is no error, for Parse returned the command.
		line, _ := Print(c)
		write(&paper, commandMark, line)
		write(&paper, answerMark, answer...)
	}
	if paper.Len() > api.MaxReport {
		return "", 0, api.ErrLong
	}
	return paper.String(), 0, api.OK
}

// Open returns the script of a transcript, and what is told in it.
func Open(paper string) (text, told string, line int, e api.Errno) {
	if len(paper) > api.MaxReport {
		return "", "", 0, api.ErrLong
	}
	var script, answers strings.Builder
	for n, line := range lines(paper) {
		command, isCommand := strings.CutPrefix(line, commandMark)
		answer, isAnswer := strings.CutPrefix(line, answerMark)
		switch {
		case isCommand:
			write(&script, "", command)
		case isAnswer:
			write(&answers, "", answer)
		default:
			return "", "", n, api.ErrProof
		}
	}
	return script.String(), answers.String(), 0, api.OK
}
