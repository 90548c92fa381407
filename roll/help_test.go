package roll_test

import (
	"fmt"
	"math"
	"math/rand/v2"
	"slices"
	"strings"
	"testing"

	"pinfold/api"
	"pinfold/roll"
)

// at is the item of a manor's record.
func at(manor, no int) api.Item { return api.Item{Manor: manor, No: no} }

// example is the record R of the chapter's examples.
func example() api.Record {
	return api.Record{At: at(2, 0), Kind: 5, Day: 10, Known: 12, Text: "a"}
}

// plain is a record that says which one it is.
func plain(manor, no int) api.Record {
	return api.Record{At: at(manor, no), Kind: 1, Day: no, Known: no, Text: fmt.Sprint("of ", manor, " ", no)}
}

// withdrawal is a record that withdraws another one of its manor.
func withdrawal(manor, no, of, known int) api.Record {
	return api.Record{At: at(manor, no), Known: known, Of: at(manor, of)}
}

// plains are records of manors in turns: each number is the manor of one.
func plains(manors ...int) []api.Record {
	var l []api.Record
	next := map[int]int{}
	for _, manor := range manors {
		l = append(l, plain(manor, next[manor]))
		next[manor]++
	}
	return l
}

// turns are so many manors, one after the other.
func turns(many int) []int {
	var l []int
	for i := range many {
		l = append(l, i%api.MaxManors)
	}
	return l
}

// fullText has as many bytes as a text may have, all of those that there may be among them.
func fullText() string {
	var b strings.Builder
	for i := 0; b.Len() < api.MaxText; i++ {
		if c := byte(' ' + i%('~'-' '+1)); c != '?' {
			b.WriteByte(c)
		}
	}
	return b.String()
}

// fullBook has as many records as a book may have, of all manors.
func fullBook() api.Book {
	b, _ := roll.Sorted(plains(turns(api.MaxRecords)...))
	return b
}

// fullOffice has as many records as an office may have, and knows of others what it may know.
func fullOffice() api.Office {
	l := plains(turns(api.MaxRecords)...)
	m := officeOf(2, l[:40], l[40:])
	for h := range m.Known {
		for x := range m.Known[h] {
			m.Known[h][x] = api.MaxRecords * (h % 2)
		}
	}
	return m
}

// officeOf is a manor's office with records that are dry, and some that are wet.
func officeOf(me int, dry, wet []api.Record) api.Office {
	text, sum := retoldText(1, dry)
	ink, _ := retoldText(sum, wet)
	return api.Office{Me: me, Rolls: api.Rolls{Main: api.Roll{Dry: text, Wet: ink}, Copy: api.Roll{Dry: text}}, Written: slices.Concat(dry, wet)}
}

func newRandom() *rand.Rand { return rand.New(rand.NewPCG(8, 23)) }

// pick is one of some values.
func pick[T any](x *rand.Rand, l ...T) T { return l[x.IntN(len(l))] }

// randomText is short, and mostly of what a line has, too.
func randomText(x *rand.Rand) string {
	var b strings.Builder
	for range x.IntN(9) {
		b.WriteByte(pick[byte](x, ' ', '0', '1', '7', 'a', '~', '-', '@'))
	}
	return b.String()
}

// randomRecord is one of an item, which withdraws another one now and then.
func randomRecord(x *rand.Rand, item api.Item) api.Record {
	if item.No > 0 && x.IntN(3) == 0 {
		return withdrawal(item.Manor, item.No, x.IntN(item.No), x.IntN(12))
	}
	return api.Record{At: item, Kind: 1 + x.IntN(api.MaxKind), Day: x.IntN(12), Known: x.IntN(12), Text: randomText(x)}
}

// more are records that can be written behind others, of some manors alone.
func more(x *rand.Rand, l []api.Record, many int, manors ...int) []api.Record {
	have := retoldHave(l)
	var fresh []api.Record
	for range many {
		manor := pick(x, manors...)
		fresh = append(fresh, randomRecord(x, at(manor, have[manor])))
		have[manor]++
	}
	return fresh
}

// randomList is of records that are written one after the other.
func randomList(x *rand.Rand) []api.Record { return more(x, nil, x.IntN(14), 0, 1, 2, 5) }

// shuffled are the same records in another order, in which they are written one after the other, too.
func shuffled(x *rand.Rand, l []api.Record) []api.Record {
	left := slices.Clone(l)
	var turned []api.Record
	for len(left) > 0 {
		i := x.IntN(len(left))
		if left[i].At.No == retoldHave(turned)[left[i].At.Manor] {
			turned = append(turned, left[i])
			left = slices.Delete(left, i, i+1)
		}
	}
	return turned
}

// part is a book that another one has within it: the first records of each manor.
func part(x *rand.Rand, b api.Book) api.Book {
	var most [api.MaxManors]int
	for manor := range most {
		most[manor] = x.IntN(8)
	}
	return api.Book{Records: slices.DeleteFunc(slices.Clone(b.Records), func(r api.Record) bool { return r.At.No >= most[r.At.Manor] })}
}

func bookOf(l []api.Record) api.Book { return api.Book{Records: retoldSorted(l)} }

// randomPicks are of all sizes, and less than 0, too.
func randomPicks(x *rand.Rand) []int {
	var l []int
	for range x.IntN(10) {
		l = append(l, pick(x, x.IntN(5), x.IntN(200), -x.IntN(200), x.IntN(100000), math.MaxInt, math.MinInt))
	}
	return l
}

// each has random lists of records.
func each(times int, ask func(x *rand.Rand, l []api.Record)) {
	x := newRandom()
	for range times {
		ask(x, randomList(x))
	}
}

// one has a result and its error in one text.
func one[T any](x T, e api.Errno) string { return fmt.Sprintf("%+v %d", x, e) }

func want[T any](t *testing.T, name string, got T, e api.Errno, wanted T, wantedE api.Errno) {
	t.Helper()
	if g, w := one(got, e), one(wanted, wantedE); g != w {
		t.Errorf("%s: %s; want %s", name, g, w)
	}
}

func wantErrno(t *testing.T, name string, e, wanted api.Errno) {
	t.Helper()
	if e != wanted {
		t.Errorf("%s: %d; want %d", name, e, wanted)
	}
}

// pair has two results as one.
type pair[A, B any] struct {
	A A
	B B
}

func two[A, B any](a A, b B, e api.Errno) (pair[A, B], api.Errno) { return pair[A, B]{a, b}, e }
