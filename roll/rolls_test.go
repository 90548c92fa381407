package roll_test

import (
	"fmt"
	"math"
	"math/rand/v2"
	"slices"
	"strings"
	"testing"

	"pinfold/api"
	"pinfold/roll"
)

// randomSplit is a text on a roll, some of it dry.
func randomSplit(x *rand.Rand, text string) api.Roll {
	i := x.IntN(len(text) + 1)
	return api.Roll{Dry: text[:i], Wet: text[i:]}
}

// randomRolls have records: the copy some of them, and both some of it dry.
func randomRolls(x *rand.Rand, l []api.Record) api.Rolls {
	return api.Rolls{Main: randomSplit(x, textOf(l)), Copy: randomSplit(x, textOf(l[:x.IntN(len(l)+1)]))}
}

// oddRolls have any texts.
func oddRolls(x *rand.Rand, l []api.Record) api.Rolls {
	main, copied := textOf(l)+pick(x, "", "1 2", "\n", "?"), textOf(more(x, nil, x.IntN(5), 0, 4))
	return api.Rolls{Main: randomSplit(x, main[x.IntN(min(len(main), 2)+1):]), Copy: randomSplit(x, copied[:x.IntN(len(copied)+1)])}
}

// P8.1: Write puts the line behind the wet ink of Main, and the record behind the others.
func TestWrite(t *testing.T) {
	each(500, func(x *rand.Rand, l []api.Record) {
		r := randomRolls(x, l)
		fresh := more(x, l, 1, 0, 1, 2, 3, 4, 5)[0]
		rolls, written, e := roll.Write(r, l, fresh)
		wanted := r
		wanted.Main.Wet += strings.TrimPrefix(textOf(append(slices.Clone(l), fresh)), textOf(l))
		want(t, fmt.Sprint("Write ", r, fresh), pair[api.Rolls, []api.Record]{rolls, written}, e, pair[api.Rolls, []api.Record]{wanted, append(slices.Clone(l), fresh)}, api.OK)
		for _, old := range l {
			rolls, written, e := roll.Write(r, l, old)
			want(t, fmt.Sprint("Write ", r, old), pair[api.Rolls, []api.Record]{rolls, written}, e, pair[api.Rolls, []api.Record]{r, l}, api.OK)
		}
	})
}

// wantNotWritten wants an error of Write.
func wantNotWritten(t *testing.T, r api.Rolls, l []api.Record, x api.Record, wanted api.Errno) {
	t.Helper()
	rolls, written, e := roll.Write(r, l, x)
	want(t, fmt.Sprintf("Write %.300v %.300v", r, x), pair[api.Rolls, []api.Record]{rolls, written}, e, pair[api.Rolls, []api.Record]{}, wanted)
}

// P8.1: the errors of Write are those of Add, behind ErrRolls.
func TestWriteErrors(t *testing.T) {
	each(100, func(x *rand.Rand, l []api.Record) {
		r := randomRolls(x, l)
		for _, old := range l {
			for _, other := range others(old) {
				wantNotWritten(t, r, l, other, api.ErrDiffer)
			}
		}
		for manor, have := range retoldHave(l) {
			wantNotWritten(t, r, l, plain(manor, have+1), api.ErrGap)
		}
		for _, bad := range badRecords() {
			wantNotWritten(t, r, l, bad, api.ErrRecord)
		}
	})
	full := fullOffice()
	for manor := range api.MaxManors {
		wantNotWritten(t, full.Rolls, full.Written, plain(manor, 10), api.ErrLong)
		wantNotWritten(t, full.Rolls, full.Written, plain(manor, 11), api.ErrGap)
		wantNotWritten(t, full.Rolls, full.Written, others(plain(manor, 9))[0], api.ErrDiffer)
		rolls, written, e := roll.Write(full.Rolls, full.Written, plain(manor, 9))
		want(t, "Write", pair[api.Rolls, []api.Record]{rolls, written}, e, pair[api.Rolls, []api.Record]{full.Rolls, full.Written}, api.OK)
	}
}

// P8.1: Seal dries the text of Main on both rolls, whatever the copy had.
func TestSeal(t *testing.T) {
	each(300, func(x *rand.Rand, l []api.Record) {
		for _, r := range []api.Rolls{randomRolls(x, l), oddRolls(x, l)} {
			dry := api.Roll{Dry: r.Main.Dry + r.Main.Wet}
			want(t, fmt.Sprint("Seal ", r), roll.Seal(r), api.OK, api.Rolls{Main: dry, Copy: dry}, api.OK)
		}
	})
	want(t, "Seal", roll.Seal(api.Rolls{Copy: api.Roll{Dry: "a", Wet: "b"}}), api.OK, api.Rolls{}, api.OK)
}

// P8.1: Tear leaves the beginning of what was wet, with one byte smudged or none, first of Main, then of Copy.
func TestTear(t *testing.T) {
	each(2000, func(x *rand.Rand, l []api.Record) {
		r, picks := oddRolls(x, l), randomPicks(x)
		main, copied := retoldTear(picks, 0, len(r.Main.Wet)), retoldTear(picks, 3, len(r.Copy.Wet))
		wanted := api.Rolls{Main: api.Roll{Dry: r.Main.Dry + main.of(r.Main.Wet)}, Copy: api.Roll{Dry: r.Copy.Dry + copied.of(r.Copy.Wet)}}
		want(t, fmt.Sprint("Tear ", r, picks), roll.Tear(r, picks), api.OK, wanted, api.OK)
	})
}

// P8.1: what picks do, one by one: taken again from the first one, less than 0, and without any.
func TestPicks(t *testing.T) {
	r := api.Rolls{Main: api.Roll{Dry: "ab", Wet: "cdefg"}, Copy: api.Roll{Dry: "x", Wet: "yz"}}
	for _, c := range []struct {
		picks        []int
		main, copied string
	}{
		{nil, "ab", "x"}, {[]int{0}, "ab", "x"}, {[]int{5}, "ab?defg", "xy?"}, {[]int{6}, "ab", "x"}, {[]int{2}, "abcd", "xyz"}, {[]int{5, 0}, "abcdefg", "x"}, {[]int{5, 0, 3, 2, 1, 1}, "abcdefg", "xy?"},
		{[]int{3, 1, 0, 1, 1, 0}, "ab?de", "x?"}, {[]int{3, 1, 4, 2, 2, 1}, "abc?e", "xyz"}, {[]int{3, -1, -1, 2, -3, -2}, "abcd?", "x?z"}, {[]int{-1, 2, 7, -1, -2, 7}, "abcdefg", "xyz"},
		{[]int{0, 1, 3, 3, 1, 9}, "ab", "x"}, {[]int{math.MaxInt, 0, 0, math.MinInt, 0, 0}, "abc", "xy"}, {[]int{5, math.MaxInt, math.MinInt, 2, math.MinInt, 0}, "abcd?fg", "xyz"},
		{[]int{4, 0, 0, 1, 1}, "abcdef", "x?"}, {[]int{1, 2, 3, 4, 5, 6, 7, 8, 9}, "abc", "x?"},
	} {
		want(t, fmt.Sprint("Tear ", c.picks), roll.Tear(r, c.picks), api.OK, api.Rolls{Main: api.Roll{Dry: c.main}, Copy: api.Roll{Dry: c.copied}}, api.OK)
	}
	want(t, "Tear of nothing", roll.Tear(api.Rolls{}, []int{1, 1, 1, 1, 1, 1}), api.OK, api.Rolls{}, api.OK)
	dry := api.Rolls{Main: api.Roll{Dry: "ab"}, Copy: api.Roll{Dry: "ab"}}
	want(t, "Tear of what is dry", roll.Tear(dry, []int{1, 1, 1, 1, 1, 1}), api.OK, dry, api.OK)
}

// P8.1: Burn makes one of both rolls new.
func TestBurn(t *testing.T) {
	r := api.Rolls{Main: api.Roll{Dry: "a", Wet: "b"}, Copy: api.Roll{Dry: "c", Wet: "d"}}
	want(t, "Burn of Main", roll.Burn(r, false), api.OK, api.Rolls{Copy: r.Copy}, api.OK)
	want(t, "Burn of Copy", roll.Burn(r, true), api.OK, api.Rolls{Main: r.Main}, api.OK)
	want(t, "Burn of new ones", roll.Burn(api.Rolls{}, true), api.OK, api.Rolls{}, api.OK)
}

// P8.1: Open means the roll with more records, Main if both have as many, and mends both by it.
func TestOpen(t *testing.T) {
	each(1500, func(x *rand.Rand, l []api.Record) {
		r := oddRolls(x, l)
		if x.IntN(2) == 0 {
			r.Main, r.Copy = r.Copy, r.Main
		}
		records, text := retoldScan(r.Main.Dry + r.Main.Wet)
		if copied, its := retoldScan(r.Copy.Dry + r.Copy.Wet); len(copied) > len(records) {
			records, text = copied, its
		}
		dry := api.Roll{Dry: text}
		rolls, got := roll.Open(r)
		want(t, fmt.Sprint("Open ", r), pair[api.Rolls, []api.Record]{rolls, got}, api.OK, pair[api.Rolls, []api.Record]{api.Rolls{Main: dry, Copy: dry}, records}, api.OK)
	})
	a, b := plains(0, 0, 1), plains(3, 3, 3)
	_, l := roll.Open(api.Rolls{Main: api.Roll{Dry: textOf(a)}, Copy: api.Roll{Dry: textOf(b)}})
	want(t, "Open of as many", l, api.OK, a, api.OK)
	_, l = roll.Open(api.Rolls{Main: api.Roll{Dry: textOf(a)}, Copy: api.Roll{Wet: textOf(plains(3, 3, 3, 3))}})
	want(t, "Open of more", l, api.OK, plains(3, 3, 3, 3), api.OK)
}
