package march

import (
	"strconv"
	"strings"

	"pinfold/api"
)

// headWord is the first word of a pound's text.
const headWord = "pound"

// maxPrinted is the greatest number of five digits.
const maxPrinted = 99999

// wordOf is the word of a kind of entries.
func wordOf(kind int) string {
	switch kind {
	case api.EnPound:
		return "pound"
	case api.EnRelease:
		return "release"
	case api.EnSend:
		return "send"
	case api.EnCall:
		return "call"
	case api.EnDone:
		return "done"
	case api.EnBack:
		return "back"
	case api.EnTake:
		return "take"
	case api.EnRefuse:
		return "refuse"
	}
	return ""
}

// kindOf is the kind of entries whose word this is, or 0.
func kindOf(word string) int {
	for kind := api.EnPound; kind <= api.EnRefuse; kind++ {
		if wordOf(kind) == word {
			return kind
		}
	}
	return 0
}

// fieldsOf returns the numbers that the line of an entry has, in its order.
func fieldsOf(x *api.Entry) []*int {
	if isOfRide(x.Kind) {
		return []*int{&x.Beast, &x.Other, &x.No}
	}
	return []*int{&x.Beast}
}

func numbersOf(x api.Entry) []int {
	var l []int
	for _, field := range fieldsOf(&x) {
		l = append(l, *field)
	}
	return l
}

// lineOf writes a word and numbers as a line.
func lineOf(word string, numbers ...int) string {
	words := []string{word}
	for _, n := range numbers {
		words = append(words, strconv.Itoa(n))
	}
	return strings.Join(words, " ") + "\n"
}

// Print returns the text of a pound.
func Print(p api.Pound) (string, api.Errno) {
	if e := Check(p); e != api.OK {
		return "", e
	}
	var text strings.Builder
	text.WriteString(lineOf(headWord, p.Me, p.Firm))
	for x := range entries(p.Journal) {
		text.WriteString(lineOf(wordOf(x.Kind), numbersOf(x)...))
	}
	return text.String(), api.OK
}

// Parse reads such a text.
func Parse(text string) (api.Pound, int, api.Errno) {
	if len(text) > api.MaxPaper {
		return api.Pound{}, 0, api.ErrLong
	}
	p, wrong := read(text)
	if wrong > 0 {
		return api.Pound{}, wrong, api.ErrText
	}
	if e := Check(p); e != api.OK {
		return api.Pound{}, 0, e
	}
	return p, 0, api.OK
}

// read returns the pound of a text, valid or not, and the number of the first line that has another form, or 0.
func read(text string) (api.Pound, int) {
	var p api.Pound
	n := 0
	for line := range strings.Lines(text) {
		n++
		if ok := n == 1 && readHead(line, &p) || n > 1 && readEntry(line, &p); !ok {
			return api.Pound{}, n
		}
	}
	if n == 0 {
		return api.Pound{}, 1
	}
	return p, 0
}

// readHead reads the first line of a text into a pound.
func readHead(line string, p *api.Pound) bool {
	return readNumbers(line, headWord, &p.Me, &p.Firm)
}

// readEntry puts the entry of a line behind the journal of a pound.
func readEntry(line string, p *api.Pound) bool {
	word, _, _ := strings.Cut(line, " ")
	x := api.Entry{Kind: kindOf(word)}
	ok := x.Kind != 0 && readNumbers(line, word, fieldsOf(&x)...)
	p.Journal = append(p.Journal, x)
	return ok
}

// readNumbers reads the numbers of a line behind its word; false if the line has another form.
func readNumbers(line, word string, fields ...*int) bool {
	words := strings.Split(strings.TrimSuffix(line, "\n"), " ")
	if len(words) != 1+len(fields) {
		return false
	}
	var numbers []int
	for i, field := range fields {
		n, err := strconv.Atoi(words[1+i])
		if err != nil || !within(n, 0, maxPrinted) {
			return false
		}
		*field = n
		numbers = append(numbers, n)
	}
	// Numbers have just one line: any other one has signs, zeros, another word, or lacks its line feed.
	return lineOf(word, numbers...) == line
}
