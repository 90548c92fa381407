package court

import (
	"strconv"
	"strings"

	"pinfold/api"
)

// nothing is the answer where there is nothing to tell.
const nothing = "none"

// digits writes numbers with one space between them.
func digits(numbers ...int) string {
	var words []string
	for _, n := range numbers {
		words = append(words, strconv.Itoa(n))
	}
	return strings.Join(words, " ")
}

// row is a line of numbers.
func row(numbers ...int) string {
	if len(numbers) == 0 {
		return nothing
	}
	return digits(numbers...)
}

// worded is a line with a word ahead of its numbers.
func worded(word string, numbers ...int) string {
	if len(numbers) == 0 {
		return word
	}
	return word + " " + digits(numbers...)
}

// one is an answer of one line.
func one(line string) []string { return []string{line} }

// list is an answer that is one list of numbers.
func list(numbers []int) []string { return one(row(numbers...)) }

// done is the answer of what was set up.
func done() []string { return one("ok") }

// rows is an answer with a line for each element of a list.
func rows[T any](l []T, write func(x T) string) []string {
	if len(l) == 0 {
		return one(nothing)
	}
	var lines []string
	for _, x := range l {
		lines = append(lines, write(x))
	}
	return lines
}

// judgement is the word of an answer of package drive.
func judgement(answer int) []string {
	switch answer {
	case api.Yes:
		return one("yes")
	case api.Maybe:
		return one("maybe")
	}
	return one("no")
}

// bit is 1 for what is so.
func bit(is bool) int {
	if is {
		return 1
	}
	return 0
}
