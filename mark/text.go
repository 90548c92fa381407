package mark

import (
	"strconv"
	"strings"

	"pinfold/api"
)

// The first words of the lines of a mark book's text.
const (
	wearWord  = "wear"
	falseWord = "false"
	markWord  = "mark"
)

// mostDigits is how many digits a number of a text may have.
const mostDigits = 2

// Print writes a mark book as a text.
func Print(b api.Marks) (string, api.Errno) {
	if e := Check(b); e != api.OK {
		return "", e
	}
	text := lineOf(wearWord, b.Wear[:]...) + lineOf(falseWord, b.False)
	for _, g := range b.Given {
		text += lineOf(markWord, append([]int{g.Owner}, g.Mark[:]...)...)
	}
	return text, api.OK
}

// lineOf returns a line of a word and numbers.
func lineOf(word string, numbers ...int) string {
	line := word
	for _, n := range numbers {
		line += " " + strconv.Itoa(n)
	}
	return line + "\n"
}

// badLine is the number of the line at which reading a text stops.
type badLine int

// Parse reads a text of a mark book.
func Parse(text string) (b api.Marks, line int, e api.Errno) {
	if len(text) > api.MaxBook {
		return api.Marks{}, 0, api.ErrLong
	}
	defer func() {
		if bad, ok := recover().(badLine); ok {
			b, line, e = api.Marks{}, int(bad), api.ErrText
		}
	}()
	read := readBook(text)
	if Check(read) != api.OK {
		return api.Marks{}, 0, api.ErrMarks
	}
	return read, 0, api.OK
}

// readBook reads a text's lines; it panics with the badLine of the first one that is wrong or missing.
func readBook(text string) api.Marks {
	var b api.Marks
	lines := linesOf(text)
	said := 0
	for i, line := range lines {
		words := wordsOf(line)
		if len(words) == 0 {
			continue
		}
		at := badLine(i + 1)
		switch said {
		case 0:
			copy(b.Wear[:], numbersOf(at, words, wearWord, api.Signs))
		case 1:
			b.False = numbersOf(at, words, falseWord, 1)[0]
		default:
			l := numbersOf(at, words, markWord, 1+api.Places)
			g := api.Given{Owner: l[0]}
			copy(g.Mark[:], l[1:])
			b.Given = append(b.Given, g)
		}
		said++
	}
	if said < 2 {
		panic(badLine(len(lines) + 1))
	}
	return b
}

// linesOf parts a text into its lines.
func linesOf(text string) []string {
	lines := strings.Split(text, "\n")
	// Behind a line feed at the end there is no further line.
	if last := len(lines) - 1; lines[last] == "" {
		lines = lines[:last]
	}
	return lines
}

// wordsOf returns the words of a line; none if it says nothing.
func wordsOf(line string) []string {
	if strings.HasPrefix(line, "#") {
		return nil
	}
	return strings.FieldsFunc(line, func(r rune) bool { return r == ' ' })
}

// numbersOf returns the numbers of a line that has one word and so many numbers; it panics with at for any other line.
func numbersOf(at badLine, words []string, word string, count int) []int {
	if len(words) != 1+count || words[0] != word {
		panic(at)
	}
	var l []int
	for _, w := range words[1:] {
		n, ok := numberOf(w)
		if !ok {
			panic(at)
		}
		l = append(l, n)
	}
	return l
}

// numberOf reads a number.
func numberOf(word string) (int, bool) {
	n, err := strconv.Atoi(word)
	// A word that is not the number's own decimal form has a sign or a leading zero too many.
	if err != nil || len(word) > mostDigits || n < 0 || strconv.Itoa(n) != word {
		return 0, false
	}
	return n, true
}
