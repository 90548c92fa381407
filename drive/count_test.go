package drive_test

import (
	"testing"

	"pinfold/api"
	"pinfold/drive"
)

// P3.2: Count has the ends of all lists, each number between them is so by some list, and Attain shows both ends.
func TestCount(t *testing.T) {
	x := newRandom()
	wide, above := 0, 0
	for range 600 {
		d, all := soundDrive(x)
		eachShare(func(owner, sort int) {
			wanted := counts(d, all, owner, sort)
			got, e := drive.Count(d, owner, sort)
			want(t, "Count", got, e, wanted, api.OK)
			numbers := map[int]bool{}
			for _, l := range all {
				numbers[has(d, l, owner, sort)] = true
			}
			if len(numbers) != got.Hi-got.Lo+1 {
				t.Error(d, got, numbers)
			}
			checkAttain(t, d, owner, sort, false, wanted.Lo)
			checkAttain(t, d, owner, sort, true, wanted.Hi)
			if wanted.Lo < wanted.Hi {
				wide++
			}
			if wanted.Lo > 0 {
				above++
			}
		})
	}
	if wide < 500 || above < 500 {
		t.Error("few ranges have two ends, or are above 0", wide, above)
	}
}

func checkAttain(t *testing.T, d api.Drive, owner, sort int, high bool, n int) {
	t.Helper()
	given, e := drive.Attain(d, owner, sort, high)
	if e != api.OK || !isGiven(d, given) || has(d, given, owner, sort) != n {
		t.Error("Attain", d, owner, sort, high, given, e, n)
	}
	wantErrno(t, "CheckGiven", drive.CheckGiven(d, given), api.OK)
}

// P3.2: the ends for beasts that are at the limits: 40 of one sort, with eight owners each.
func TestCountMany(t *testing.T) {
	var d api.Drive
	for i := range api.MaxCounted {
		d.Beasts = append(d.Beasts, counted(100+i, 9, 1, 2, 3, 4, 5, 6, 7, 99))
	}
	for _, owner := range []int{1, 2, 3, 4, 5, 6, 7, 99} {
		d.Stocks = append(d.Stocks, api.Stock{Owner: owner, Sort: 8, Most: 1000}, api.Stock{Owner: owner, Sort: 9, Most: 6})
	}
	for _, owner := range []int{1, 99} {
		got, e := drive.Count(d, owner, 9)
		want(t, "Count", got, e, api.Range{Lo: 0, Hi: 6}, api.OK)
	}
	d.Stocks[1].Most = 3
	got, e := drive.Count(d, 99, 9)
	want(t, "45 at most", got, e, api.Range{Lo: 1, Hi: 6}, api.OK)
	d.Stocks[1].Most = api.MaxMost
	got, e = drive.Count(d, 1, 9)
	want(t, "as many as there are", got, e, api.Range{Lo: 0, Hi: 40}, api.OK)
	got, e = drive.Count(d, 1, 8)
	want(t, "none of the sort", got, e, api.Range{}, api.OK)
}

// P3.1: Whose is Yes if all lists say so, and No if none does.
func TestWhose(t *testing.T) {
	x := newRandom()
	answers := map[int]int{}
	for range 600 {
		d, all := soundDrive(x)
		for i, b := range d.Beasts {
			for owner := 1; owner <= someOwners+1; owner++ {
				r := rangeOf(all, func(given []int) int {
					if given[i] == owner {
						return 1
					}
					return 0
				})
				wanted := api.Maybe
				if r.Lo == r.Hi {
					wanted = []int{api.No, api.Yes}[r.Lo]
				}
				answers[wanted]++
				got, e := drive.Whose(d, b.Beast, owner)
				want(t, "Whose", got, e, wanted, api.OK)
			}
		}
	}
	if len(answers) != 3 || min(answers[api.Yes], answers[api.Maybe]) < 300 {
		t.Error(answers)
	}
}

// randomRates has rates of the sorts of random drives.
func randomRates(n int) api.Rates { return api.Rates{1: n % 4 * 10, 2: n % 3 * 7, 3: 5} }

// parts is how many parts the beasts of an owner take by a list.
func parts(d api.Drive, given []int, owner int, r api.Rates) int {
	n := 0
	for sort, rate := range r {
		n += rate * has(d, given, owner, sort)
	}
	return n
}

// P3.1 and P3.7: Parts has the ends of all lists, and these are the sums of those of Count: the ends of all sorts are attained by one list.
func TestParts(t *testing.T) {
	x := newRandom()
	two := 0
	for i := range 600 {
		d, all := soundDrive(x)
		r := randomRates(i)
		for owner := 1; owner <= someOwners+1; owner++ {
			wanted := rangeOf(all, func(given []int) int { return parts(d, given, owner, r) })
			got, e := drive.Parts(d, owner, r)
			want(t, "Parts", got, e, wanted, api.OK)
			var sum api.Range
			for sort, rate := range r {
				if sort == 0 {
					continue
				}
				n, e := drive.Count(d, owner, sort)
				wantErrno(t, "Count", e, api.OK)
				sum.Lo, sum.Hi = sum.Lo+rate*n.Lo, sum.Hi+rate*n.Hi
			}
			want(t, "sum", sum, api.OK, got, api.OK)
			if checkTogether(t, d, all, owner) {
				two++
			}
		}
	}
	if two < 30 {
		t.Error("few owners have beasts of two sorts", two)
	}
}

// checkTogether wants a list with the least numbers of all sorts, and one with the greatest, and reports whether the owner may have both sorts.
func checkTogether(t *testing.T, d api.Drive, all [][]int, owner int) bool {
	t.Helper()
	first, e := drive.Count(d, owner, 1)
	wantErrno(t, "Count", e, api.OK)
	second, e := drive.Count(d, owner, 2)
	wantErrno(t, "Count", e, api.OK)
	least, greatest := false, false
	for _, l := range all {
		n, m := has(d, l, owner, 1), has(d, l, owner, 2)
		least = least || n == first.Lo && m == second.Lo
		greatest = greatest || n == first.Hi && m == second.Hi
	}
	if !least || !greatest {
		t.Error("no list has all of them", d, owner, first, second)
	}
	return first.Hi > 0 && second.Hi > 0
}

// P3.5: Over is Yes if each list gives the owner more than the right, No if none does, and otherwise Maybe.
func TestOver(t *testing.T) {
	x := newRandom()
	answers := map[int]int{}
	for i := range 600 {
		d, all := soundDrive(x)
		r := randomRates(i)
		for owner := 1; owner <= someOwners+1; owner++ {
			n := rangeOf(all, func(given []int) int { return parts(d, given, owner, r) })
			for _, right := range []int{0, n.Lo - 1, n.Lo, n.Hi - 1, n.Hi, n.Hi + 1, api.MaxRight} {
				if right < 0 {
					continue
				}
				over := rangeOf(all, func(given []int) int {
					if parts(d, given, owner, r) > right {
						return 1
					}
					return 0
				})
				wanted := api.Maybe
				if over.Lo == over.Hi {
					wanted = []int{api.No, api.Yes}[over.Lo]
				}
				answers[wanted]++
				got, e := drive.Over(d, owner, r, right)
				want(t, "Over", got, e, wanted, api.OK)
			}
		}
	}
	if len(answers) != 3 || min(answers[api.Yes], answers[api.Maybe]) < 300 {
		t.Error(answers)
	}
}

// P3.1: the greatest rates, beasts of all sorts.
func TestManyParts(t *testing.T) {
	d := fullDrive()
	r := api.Rates{0, 3600, 3600, 3600, 3600, 3600, 3600, 3600, 3600, 3600}
	got, e := drive.Parts(d, 1, r)
	want(t, "Parts", got, e, api.Range{Lo: 0, Hi: 40 * 3600}, api.OK)
	over, e := drive.Over(d, 1, r, 40*3600-1)
	want(t, "Over", over, e, api.Maybe, api.OK)
	over, e = drive.Over(d, 1, r, 40*3600)
	want(t, "Over", over, e, api.No, api.OK)
}

// P3.1: Moved has the owners of whom another number of some sort is told by the other drive.
func TestMoved(t *testing.T) {
	x := newRandom()
	moved := 0
	for range 600 {
		d, all := soundDrive(x)
		other, otherAll := soundDrive(x)
		if x.IntN(2) == 0 {
			if n, ok := narrowed(x, d); ok {
				other, otherAll = n, lists(n)
			}
		}
		var wanted []int
		for owner := 1; owner <= someOwners; owner++ {
			if counts(d, all, owner, 1) != counts(other, otherAll, owner, 1) || counts(d, all, owner, 2) != counts(other, otherAll, owner, 2) {
				wanted = append(wanted, owner)
			}
		}
		moved += len(wanted)
		got, e := drive.Moved(d, other)
		want(t, "Moved", got, e, wanted, api.OK)
		got, e = drive.Moved(other, d)
		want(t, "the other way round", got, e, wanted, api.OK)
		got, e = drive.Moved(d, d)
		want(t, "nothing", got, e, nil, api.OK)
	}
	if moved < 300 {
		t.Error("few were moved", moved)
	}
	d := api.Drive{Beasts: []api.Counted{counted(1, 9, 99)}, Stocks: []api.Stock{{Owner: 99, Sort: 9, Most: 1}}}
	got, e := drive.Moved(api.Drive{}, d)
	want(t, "the last owner, of the last sort", got, e, []int{99}, api.OK)
}

// P3.6: with a beast's owners narrowed no range is wider.
func TestNarrower(t *testing.T) {
	x := newRandom()
	narrower := 0
	for range 1500 {
		d, _ := soundDrive(x)
		n, ok := narrowed(x, d)
		if !ok {
			continue
		}
		eachShare(func(owner, sort int) {
			before, e := drive.Count(d, owner, sort)
			wantErrno(t, "before", e, api.OK)
			after, e := drive.Count(n, owner, sort)
			wantErrno(t, "after", e, api.OK)
			if after.Lo < before.Lo || after.Hi > before.Hi {
				t.Error(d, n, owner, sort, before, after)
			}
			if after != before {
				narrower++
			}
		})
	}
	if narrower < 300 {
		t.Error("few ranges were narrower", narrower)
	}
}

// P3.6: without a beast the least number of an owner is no greater, and at most 1 less.
func TestLess(t *testing.T) {
	x := newRandom()
	less := 0
	for range 600 {
		d, _ := soundDrive(x)
		n, e := drive.Without(d, d.Beasts[x.IntN(len(d.Beasts))].Beast)
		wantErrno(t, "Without", e, api.OK)
		eachShare(func(owner, sort int) {
			before, e := drive.Count(d, owner, sort)
			wantErrno(t, "before", e, api.OK)
			after, e := drive.Count(n, owner, sort)
			wantErrno(t, "after", e, api.OK)
			if after.Lo > before.Lo || after.Lo < before.Lo-1 {
				t.Error(d, n, owner, sort, before, after)
			}
			less += before.Lo - after.Lo
		})
	}
	if less < 100 {
		t.Error("few were less", less)
	}
}
