package mark_test

import (
	"strings"
	"testing"

	"pinfold/api"
	"pinfold/mark"
)

const textB = "wear 1 3 4 24 24\nfalse 0\nmark 1 0 0 0 0 0 0\nmark 2 2 0 0 0 0 0\nmark 3 3 0 0 0 0 2\n"

// P1.7: Parse of Print returns the book, also where it is as large as it may be.
func TestPrintAndParse(t *testing.T) {
	if s, e := mark.Print(bookB()); s != textB || e != api.OK {
		t.Error(s, e)
	}
	books := []api.Marks{bookB(), fullBook(), {Wear: plainWear, False: 2}, {Wear: wWear, False: 1, Given: []api.Given{{Owner: 99, Mark: api.Mark{4, 3, 2, 1, 0, 4}}}}}
	x := newRandom()
	for range 40 {
		books = append(books, randomBook(x))
	}
	for _, b := range books {
		s, e := mark.Print(b)
		if e != api.OK {
			t.Fatal(b, e)
		}
		c, n, e := mark.Parse(s)
		wantBook(t, s, c, e, b, api.OK)
		if n != 0 {
			t.Error(s, n)
		}
	}
}

// P1.1: texts that say the same in another way.
func TestParseForms(t *testing.T) {
	spaced := strings.ReplaceAll(textB, " ", "   ")
	for _, text := range []string{
		strings.TrimSuffix(textB, "\n"),
		"\n\n" + textB + "\n",
		"# marks\n#\n   \n" + textB + "#wear",
		spaced,
		"  " + strings.ReplaceAll(spaced, "\n", "  \n "),
		strings.Repeat("\n", api.MaxBook-len(textB)) + textB,
	} {
		c, n, e := mark.Parse(text)
		wantBook(t, text, c, e, bookB(), api.OK)
		if n != 0 {
			t.Error(text, n)
		}
	}
}

// P1.1: texts of another form, and the line that is told.
func TestParseWrongForms(t *testing.T) {
	head := "wear 1 3 4 24 24\nfalse 0\n"
	for text, at := range map[string]int{
		"":                             1,
		"\n":                           2,
		"\n\n":                         3,
		"# a":                          2,
		"wear 1 3 4 24 24":             2,
		"wear 1 3 4 24 24\n":           2,
		"wear 1 3 4 24 24\n\n#":        4,
		"false 0":                      1,
		"wear 1 3 4 24\n":              1,
		"wear 1 3 4 24 24 1\n":         1,
		"wear 1 3 4 24 -1\nfalse 0":    1,
		"wear 1 3 4 24 024\nfalse 0":   1,
		"wear 1 3 4 24 100\nfalse 0":   1,
		"wear 1 3 4 24 24\nwear 1":     2,
		"Wear 1 3 4 24 24\nfalse 0":    1,
		" # a\n" + head:                1,
		"wear\t1 3 4 24 24\nfalse 0":   1,
		"wear 1 3 4 24 24\r\nfalse 0":  1,
		"wear 1 3 4 24 24\nfalse":      2,
		"wear 1 3 4 24 24\nfalse 0 0":  2,
		"wear 1 3 4 24 24\nfalse 00":   2,
		"wear 1 3 4 24 24\nfalse +0":   2,
		"wear 1 3 4 24 24\nfalse -0":   2,
		"wear 1 3 4 24 24\nfalse x":    2,
		"wear 1 3 4 24 24\nfalse 0x":   2,
		"wear 9 9 9 99 99\nfals 0":     2,
		head + "\nfalse 0":             4,
		head + "wear 1 3 4 24 24":      3,
		head + "mark 1 0 0 0 0 0":      3,
		head + "mark 1 0 0 0 0 0 0 0":  3,
		head + "mark 1 0 0 0 0 0 -1":   3,
		head + "mark 01 0 0 0 0 0 0":   3,
		head + "mark 100 0 0 0 0 0 0":  3,
		head + "# a\nmark 1\nmark 2":   4,
		head + "mark 0 9 0 0 0 0 0\nx": 4,
	} {
		c, n, e := mark.Parse(text)
		wantBook(t, text, c, e, api.Marks{}, api.ErrText)
		if n != at {
			t.Errorf("%q: %d, want %d", text, n, at)
		}
	}
}

// P1.1: texts that are too long, and those of books that are not valid.
func TestParseOthers(t *testing.T) {
	head := "wear 1 3 4 24 24\nfalse 0\n"
	long := strings.Repeat("mark 1 0 0 0 0 0 0\n", api.MaxMarks+1)
	for text, want := range map[string]api.Errno{
		strings.Repeat("x", api.MaxBook+1):                     api.ErrLong,
		strings.Repeat("\n", api.MaxBook+1-len(textB)) + textB: api.ErrLong,
		"wear 1 1 4 24 24\nfalse 0":                            api.ErrMarks,
		"wear 1 3 4 24 99\nfalse 0":                            api.ErrMarks,
		"wear 1 3 4 24 24\nfalse 3":                            api.ErrMarks,
		head + "mark 0 0 0 0 0 0 0":                            api.ErrMarks,
		head + "mark 1 5 0 0 0 0 0":                            api.ErrMarks,
		head + "mark 2 0 0 0 0 0 0\nmark 1 2 0 0 0 0 0":        api.ErrMarks,
		head + "mark 1 0 0 0 0 0 0\nmark 2 1 0 0 0 0 0":        api.ErrMarks,
		head + long: api.ErrMarks,
	} {
		c, n, e := mark.Parse(text)
		wantBook(t, text, c, e, api.Marks{}, want)
		if n != 0 {
			t.Errorf("%q: %d", text, n)
		}
	}
}
