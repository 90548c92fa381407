package roll_test

import (
	"fmt"
	"math"
	"math/rand/v2"
	"slices"
	"strings"
	"testing"

	"pinfold/api"
	"pinfold/roll"
)

// sums are running sums at their limits, and between them.
func sums() []int { return []int{0, 1, 2, 4711, api.SumOf - 2, api.SumOf - 1} }

// P8.1: the line of a record, and the sum behind it.
func TestLine(t *testing.T) {
	for _, r := range goodRecords() {
		for _, sum := range sums() {
			line, behind := retoldLine(sum, r)
			got, e := two(roll.Line(sum, r))
			want(t, fmt.Sprint("Line ", sum, r), got, e, pair[string, int]{line, behind}, api.OK)
		}
	}
}

// P8.1: a line, with the sum of the chapter's bytes, and that of a withdrawal.
func TestLineOfExample(t *testing.T) {
	sum := 1
	for _, c := range []int{'2', ' ', '0', ' ', '5', ' ', '1', '0', ' ', '1', '2', ' ', '0', ' ', '0', ' ', 'a'} {
		sum = (sum*257 + c + 1) % 1000003
	}
	got, e := two(roll.Line(1, example()))
	want(t, "Line", got, e, pair[string, int]{fmt.Sprint(sum, " 2 0 5 10 12 0 0 a\n"), sum}, api.OK)
	got, e = two(roll.Line(1, withdrawal(3, 4, 2, 7)))
	if words := strings.Split(got.A, " "); strings.Join(words[1:], " ") != "3 4 0 0 7 3 2 \n" || words[0] != fmt.Sprint(got.B) || e != api.OK {
		t.Error(got, e)
	}
}

// P8.1, P8.3: Read of a line is the record, and the sum behind it.
func TestReadOfLine(t *testing.T) {
	for _, r := range goodRecords() {
		for _, sum := range sums() {
			line, behind := retoldLine(sum, r)
			got, e := two(roll.Read(sum, line))
			want(t, fmt.Sprintf("Read %d %q", sum, line), got, e, pair[api.Record, int]{r, behind}, api.OK)
		}
	}
}

// wantNoLine wants ErrLine of what is none behind a sum.
func wantNoLine(t *testing.T, sum int, line string) {
	t.Helper()
	got, e := two(roll.Read(sum, line))
	want(t, fmt.Sprintf("Read %d %.300q", sum, line), got, e, pair[api.Record, int]{}, api.ErrLine)
}

// withSum is the line of a body behind a sum, whatever the body is.
func withSum(sum int, body string) string {
	for i := range len(body) {
		sum = (257*sum + int(body[i]) + 1) % api.SumOf
	}
	return fmt.Sprint(sum, " ", body, "\n")
}

// badBodies are none of valid records.
func badBodies() []string {
	l := []string{"", "a", " ", "2", "2 0 5 10 12 0", "2 0 5 10 12 0 ", "2 0 5 10 12 0 0", "02 0 5 10 12 0 0 a", "+2 0 5 10 12 0 0 a", "2 0 5 010 12 0 0 a", "2 -0 5 10 12 0 0 a",
		"2  0 5 10 12 0 0 a", " 2 0 5 10 12 0 0 a", "2 0 5 10 12 0 00 a", "2 0 5 10 12 x 0 a", "2 0 5 1_0 12 0 0 a", "2 0 5 0x1 12 0 0 a", "2 0 5 10 12 0 99999999999999999999 a",
		"99999999999999999999 0 5 10 12 0 0 a", "2 0 5 10 12 -1 0 a", "2 0 5 10\t12 0 0 a", "2 0 5 10 1٢ 0 0 a", "2 0 5 10 12 0 0 a\n", "2 0 5 10 12 0 0 \na", "2 0 5 10 12 0 0 a\r",
		"6 0 5 10 12 0 0 a", "-1 0 5 10 12 0 0 a", "2 10000 5 10 12 0 0 a", "2 0 41 10 12 0 0 a", "2 0 5 100001 12 0 0 a", "2 0 5 10 100001 0 0 a", "2 0 5 10 12 0 1 a", "2 0 5 10 12 2 0 a",
		"2 0 0 0 12 2 0 ", "2 1 0 1 12 2 0 ", "2 1 0 0 12 2 0 a", "2 1 0 0 12 2 1 ", "2 1 0 0 12 1 0 ", "2 0 5 10 12 0 0 a?", "2 0 5 10 12 0 0 ?", "2.0 0 5 10 12 0 0 a", "2 0 5 1e1 12 0 0 a"}
	for _, text := range badTexts() {
		l = append(l, "2 0 5 10 12 0 0 "+text)
	}
	return l
}

// P8.1: what is no line behind a sum.
func TestReadErrors(t *testing.T) {
	for _, sum := range sums() {
		for _, body := range badBodies() {
			wantNoLine(t, sum, withSum(sum, body))
		}
		line, _ := retoldLine(sum, example())
		for _, l := range []string{"", "\n", " ", strings.TrimSuffix(line, "\n"), line + "\n", line + line, " " + line, "0" + line, "+" + line, "-" + line, line + " ", strings.TrimSuffix(line, "\n") + "\r\n",
			strings.TrimSuffix(line, "\n") + " \n", strings.Replace(line, " ", "  ", 1), strings.Replace(line, " ", "", 1), strings.Repeat(" ", 100), strings.Repeat("0 ", 1000), strings.Repeat("9", 1000000)} {
			wantNoLine(t, sum, l)
		}
		for _, other := range sums() {
			if other != sum {
				wantNoLine(t, other, line)
			}
		}
	}
}

// P8.1: a line with any one byte changed, left out, doubled or exchanged with the next one is none, or another record's.
func TestReadOfChangedLines(t *testing.T) {
	for _, r := range []api.Record{example(), withdrawal(3, 12, 2, 7), {Kind: 9}, changed(example(), func(r *api.Record) { r.Text = " 10 2 " })} {
		line, _ := retoldLine(77, r)
		for i := range line {
			wantAsRetold(t, 77, line[:i]+line[i+1:])
			wantAsRetold(t, 77, line[:i]+line[i:i+1]+line[i:])
			for c := range 256 {
				wantAsRetold(t, 77, line[:i]+string([]byte{byte(c)})+line[i+1:])
			}
			if i > 0 {
				wantAsRetold(t, 77, line[:i-1]+line[i:i+1]+line[i-1:i]+line[i+1:])
			}
		}
	}
}

func wantAsRetold(t *testing.T, sum int, line string) {
	t.Helper()
	wanted, whole, ok := retoldRead(sum, line)
	got, behind, e := roll.Read(sum, line)
	if !ok || whole != line {
		want(t, fmt.Sprintf("Read %q", line), pair[api.Record, int]{got, behind}, e, pair[api.Record, int]{}, api.ErrLine)
	} else {
		_, wantedSum := retoldLine(sum, wanted)
		want(t, fmt.Sprintf("Read %q", line), pair[api.Record, int]{got, behind}, e, pair[api.Record, int]{wanted, wantedSum}, api.OK)
	}
}

// P8.7: a line in which one byte has become a `?` is no line behind the same sum, nor do the next ones follow it.
func TestSmudges(t *testing.T) {
	each(60, func(x *rand.Rand, l []api.Record) {
		l = append(l, more(x, l, 2, 0, 3)...)
		text := textOf(l)
		sum, start := 1, 0
		for n, r := range l {
			line, behind := retoldLine(sum, r)
			for i := range line {
				wantNoLine(t, sum, line[:i]+"?"+line[i+1:])
				torn := text[:start+i] + "?" + text[start+i+1:]
				wantScan(t, torn, l[:n])
			}
			sum, start = behind, start+len(line)
		}
	})
}

// wantScan wants just these records of a text.
func wantScan(t *testing.T, text string, wanted []api.Record) {
	t.Helper()
	l, read := roll.Scan(text)
	want(t, fmt.Sprintf("Scan %.2000q", text), pair[[]api.Record, string]{l, read}, api.OK, pair[[]api.Record, string]{wanted, textOf(wanted)}, api.OK)
}

// P8.3: Scan of the text of records returns them; of a beginning of it, the first ones; of what stands behind it, nothing.
func TestScan(t *testing.T) {
	each(100, func(x *rand.Rand, l []api.Record) {
		text := textOf(l)
		wantScan(t, text, l)
		whole := 0
		for n := range len(text) + 1 {
			if whole < len(l) && len(textOf(l[:whole+1])) <= n {
				whole++
			}
			wantScan(t, text[:n], l[:whole])
		}
		for _, behind := range []string{"\n", " ", "a\n", "# a\n", text, withSum(1, "2 0 5 10 12 0 0 a"), strings.Repeat("x", 300)} {
			if len(l) > 0 {
				wantScan(t, text+behind, l)
			}
		}
	})
}

// P8.1: records that are not the next ones of their manors are not read, though their lines are right; nor are those behind them.
func TestScanOfGaps(t *testing.T) {
	l := plains(0, 1, 0)
	for _, odd := range []api.Record{plain(0, 3), plain(0, 1), plain(0, 0), plain(1, 2), plain(2, 1), plain(5, 9999)} {
		wantScan(t, textOf(append(plains(0, 1, 0), odd, plain(3, 0))), l)
	}
	wantScan(t, textOf([]api.Record{plain(0, 1), plain(0, 0)}), nil)
	wantScan(t, textOf(plains(turns(61)...)), plains(turns(60)...))
	wantScan(t, textOf(plains(turns(60)...)), plains(turns(60)...))
	wantScan(t, "", nil)
	wantScan(t, "\n"+textOf(l), nil)
	wantScan(t, textOf(l[:1])+"\n"+textOf(l), l[:1])
}

// P8.1: Scan of texts that were changed in any way is as the chapter tells it.
func TestScanOfChangedTexts(t *testing.T) {
	each(1500, func(x *rand.Rand, l []api.Record) {
		text := []byte(textOf(l))
		for range x.IntN(3) {
			if i := x.IntN(len(text) + 1); i < len(text) {
				text[i] = pick[byte](x, '\n', ' ', '0', '1', '?', 'a', text[x.IntN(len(text))])
			} else {
				text = append(text, textOf(l)...)
			}
		}
		records, read := retoldScan(string(text))
		got, its := roll.Scan(string(text))
		want(t, fmt.Sprintf("Scan %q", text), pair[[]api.Record, string]{got, its}, api.OK, pair[[]api.Record, string]{records, read}, api.OK)
		if !strings.HasPrefix(string(text), its) || its != textOf(got) {
			t.Errorf("Scan %q: %q", text, its)
		}
	})
}

// P8.3: two different lists of records have different texts.
func TestDifferentTexts(t *testing.T) {
	texts := map[string]string{}
	keep := func(l []api.Record) {
		text, name := "", fmt.Sprintf("%#v", append([]api.Record{}, l...))
		sum := 1
		for _, r := range l {
			line, behind, e := roll.Line(sum, r)
			wantErrno(t, "Line", e, api.OK)
			text, sum = text+line, behind
		}
		if other, ok := texts[text]; ok && other != name {
			t.Error(name, other)
		}
		texts[text] = name
	}
	each(500, func(x *rand.Rand, l []api.Record) {
		keep(l)
		for i, r := range l {
			keep(slices.Clone(l[:i]))
			for _, other := range others(r) {
				keep(append(slices.Clone(l[:i]), other))
			}
		}
	})
}

// P8.1: a sum that may not be has ErrArg, whatever the line and the record are.
func TestSums(t *testing.T) {
	for _, sum := range []int{-1, api.SumOf, api.SumOf + 1, math.MinInt, math.MaxInt} {
		for _, r := range append(badRecords(), example()) {
			got, e := two(roll.Line(sum, r))
			want(t, "Line", got, e, pair[string, int]{}, api.ErrArg)
		}
		for _, line := range []string{"", "a", withSum(1, "2 0 5 10 12 0 0 a"), withSum(0, "2 0 5 10 12 0 0 a")} {
			read, e := two(roll.Read(sum, line))
			want(t, "Read", read, e, pair[api.Record, int]{}, api.ErrArg)
		}
	}
}
