package roll

import (
	"cmp"
	"iter"
	"strconv"
	"strings"

	"pinfold/api"
)

// The running sum: what it is ahead of the first line of a text, and what it is multiplied by at each byte.
const (
	firstSum  = 1
	sumFactor = 257
)

// fieldsOf returns the numbers that the body of a record has ahead of the text, in its order.
func fieldsOf(r *api.Record) []*int {
	return []*int{&r.At.Manor, &r.At.No, &r.Kind, &r.Day, &r.Known, &r.Of.Manor, &r.Of.No}
}

func bodyOf(r api.Record) string {
	var body strings.Builder
	for _, field := range fieldsOf(&r) {
		body.WriteString(strconv.Itoa(*field) + " ")
	}
	body.WriteString(r.Text)
	return body.String()
}

// Line returns the line of a record behind a running sum, and the sum behind it.
func Line(sum int, r api.Record) (string, int, api.Errno) {
	if e := cmp.Or(checkSum(sum), CheckRecord(r)); e != api.OK {
		return "", 0, e
	}
	line, behind := lineOf(sum, r)
	return line, behind, api.OK
}

// lineOf is Line of what is valid.
func lineOf(sum int, r api.Record) (string, int) {
	body := bodyOf(r)
	for _, c := range []byte(body) {
		sum = (sumFactor*sum + int(c) + 1) % api.SumOf
	}
	return strconv.Itoa(sum) + " " + body + "\n", sum
}

// lines yields the lines of valid records, which are the text of them, each with the running sum behind it.
func lines(l []api.Record) iter.Seq2[string, int] {
	return func(yield func(line string, sum int) bool) {
		sum := firstSum
		for _, r := range l {
			line, behind := lineOf(sum, r)
			if !yield(line, behind) {
				return
			}
			sum = behind
		}
	}
}

// sumBehind is the running sum behind the text of valid records.
func sumBehind(l []api.Record) int {
	last := firstSum
	for _, sum := range lines(l) {
		last = sum
	}
	return last
}

// Read reads a line behind a running sum.
func Read(sum int, line string) (read api.Record, behind int, e api.Errno) {
	if e := checkSum(sum); e != api.OK {
		return api.Record{}, 0, e
	}
	defer func() {
		if recover() != nil {
			read, behind, e = api.Record{}, 0, api.ErrLine
		}
	}()
	r := recordOf(line)
	want, next, e := Line(sum, r)
	// A record has just one line: any other one has signs, zeros or another sum, or ends in another way.
	if e != api.OK || want != line {
		panic(api.ErrLine)
	}
	return r, next, api.OK
}

// recordOf reads the numbers and the text of a line; it panics with ErrLine if they are not there.
func recordOf(line string) api.Record {
	var r api.Record
	fields := fieldsOf(&r)
	// The sum is ahead of the numbers; the text behind them may have spaces, too.
	words := strings.SplitN(line, " ", 1+len(fields)+1)
	if len(words) != 1+len(fields)+1 {
		panic(api.ErrLine)
	}
	for i, field := range fields {
		n, err := strconv.Atoi(words[1+i])
		if err != nil {
			panic(api.ErrLine)
		}
		*field = n
	}
	r.Text = strings.TrimSuffix(words[1+len(fields)], "\n")
	return r
}

// Scan reads the lines of a text, as far as they are right.
func Scan(text string) ([]api.Record, string) {
	var l []api.Record
	var have counts
	sum, length := firstSum, 0
	for line := range strings.Lines(text) {
		if len(l) == api.MaxRecords {
			break
		}
		r, behind, e := Read(sum, line)
		if e != api.OK || !have.next(r) {
			break
		}
		l = append(l, r)
		have[r.At.Manor]++
		sum, length = behind, length+len(line)
	}
	return l, text[:length]
}
