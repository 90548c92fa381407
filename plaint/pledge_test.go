package plaint_test

import (
	"fmt"
	"math"
	"math/rand/v2"
	"slices"
	"testing"

	"pinfold/api"
	"pinfold/plaint"
)

// P7.1: the pledge of random cases has the greatest numbers, one after the other.
func TestPledge(t *testing.T) {
	each(400, func(_ *rand.Rand, c api.Case, known int) {
		allowed, _ := retoldAllowed(c, known)
		want(t, fmt.Sprint("Pledge ", c, known), pledgeOf(t, c, known), api.OK, retoldPledge(allowed, c.Sureties), api.OK)
	})
}

// P7.1: a later plaint with a lesser Id goes ahead of others in the pledge, so that their sureties pledge other numbers.
func TestPledgeOfALesserId(t *testing.T) {
	c := example()
	c.Plaints = c.Plaints[:1]
	c, e := plaint.Plead(c, api.Plaint{Id: 2, Owner: 1, Beasts: []int{1}, Claim: api.Range{Hi: 60}, Day: 7, Known: 7, Sureties: []int{1, 3}})
	wantErrno(t, "Plead", e, api.OK)
	want(t, "Pledge", pledgeOf(t, c, 6), api.OK, [][]int{{100, 20, 0}}, api.OK)
	want(t, "Pledge", pledgeOf(t, c, 7), api.OK, [][]int{{40, 0, 20}, {60, 60, 0}}, api.OK)
	c.Findings[0].Amount, c.Findings[0].Pays = 100, 0
	want(t, "Levies", leviesOf(t, c, 8), api.OK, levies([][4]int{{8, 5, 1, 60}, {8, 5, 2, 40}}), api.OK)
	c.Findings[0].Known = 6
	want(t, "Levies", leviesOf(t, c, 8), api.OK, levies([][4]int{{6, 5, 1, 100}, {7, 5, 1, -40}, {7, 5, 2, 40}}), api.OK)
}

// isPledge reports whether rows are a pledge of plaints.
func isPledge(l []api.Plaint, sureties []api.Surety, rows [][]int) bool {
	if len(rows) != len(l) {
		return false
	}
	for i, row := range rows {
		sum := 0
		for j, n := range row {
			if n < 0 || n > 0 && !slices.Contains(l[i].Sureties, sureties[j].Id) {
				return false
			}
			sum += n
		}
		if len(row) != len(sureties) || sum != l[i].Claim.Hi {
			return false
		}
	}
	for j, s := range sureties {
		sum := 0
		for _, row := range rows {
			sum += row[j]
		}
		if sum > s.Worth.Lo {
			return false
		}
	}
	return true
}

func cloneRows(rows [][]int) [][]int {
	var l [][]int
	for _, row := range rows {
		l = append(l, slices.Clone(row))
	}
	return l
}

// P7.1: any pledge of the allowed plaints is accepted, and what is none is refused.
func TestCheckPledge(t *testing.T) {
	accepted, refused := 0, 0
	each(1500, func(x *rand.Rand, c api.Case, known int) {
		allowed, _ := retoldAllowed(c, known)
		rows := pledgeOf(t, c, known)
		for range 6 {
			other := cloneRows(rows)
			for range 1 + x.IntN(2) {
				shift(x, other)
			}
			wanted := api.ErrPledge
			if isPledge(allowed, c.Sureties, other) {
				wanted = api.OK
			}
			wantErrno(t, fmt.Sprint("CheckPledge ", c, known, other), plaint.CheckPledge(c, known, api.Pledge{Rows: other}), wanted)
			if fmt.Sprint(other) == fmt.Sprint(rows) {
				continue
			}
			if wanted == api.OK {
				accepted++
			} else {
				refused++
			}
		}
	})
	if accepted < 50 || refused < 500 {
		t.Error("too few other pledges are accepted, or refused: ", accepted, refused)
	}
}

// shift lets one surety pledge for another one in a row, or lets two of them change their places in two rows.
func shift(x *rand.Rand, rows [][]int) {
	if len(rows) == 0 {
		return
	}
	row, other := pick(x, rows...), pick(x, rows...)
	i, j, n := x.IntN(len(row)), x.IntN(len(row)), 1+x.IntN(2)
	row[i] -= n
	row[j] += n
	if x.IntN(2) == 0 {
		other[i] += n
		other[j] -= n
	}
}

// badPledges are none of the example on the day 4.
func badPledges() []api.Pledge {
	var l []api.Pledge
	for _, rows := range [][][]int{
		nil, {}, {{100, 20, 0}}, {{0, 40, 30}}, {{0, 40, 30}, {100, 20, 0}}, {{100, 20, 0}, {0, 40, 30}, {0, 0, 0}}, {{100, 20, 0}, {0, 40, 30}, {}},
		{{100, 20}, {0, 40, 30}}, {{100, 20, 0}, {0, 40, 30, 0}}, {{100, 20, 0}, nil}, {{100, 20, 0}, {0, 40, 29}}, {{99, 20, 0}, {0, 40, 30}},
		{{100, 21, 0}, {0, 39, 31}}, {{100, 20, 0}, {0, 41, 29}}, {{101, 19, 0}, {0, 40, 30}}, {{90, 30, 0}, {0, 29, 41}}, {{100, 19, 1}, {0, 40, 30}},
		{{100, 20, 0}, {1, 39, 30}}, {{100, 20, 0}, {-1, 40, 31}}, {{121, -1, 0}, {0, 40, 30}}, {{100, 20, 0}, {0, 110, -40}}, {{100, 20, -1}, {0, 40, 30}},
		{{100, 20, 0}, {0, math.MaxInt, math.MinInt + 71}}, {{math.MinInt, math.MinInt + 120, 0}, {0, 40, 30}}, {{math.MaxInt, math.MaxInt, 122}, {0, 40, 30}},
	} {
		l = append(l, api.Pledge{Rows: rows})
	}
	return append(l, api.Pledge{Rows: make([][]int, 100000)}, api.Pledge{Rows: [][]int{make([]int, 100000), {0, 40, 30}}})
}

// P7.1: pledges of the example.
func TestPledgesOfTheExample(t *testing.T) {
	for _, rows := range [][][]int{{{100, 20, 0}, {0, 40, 30}}, {{90, 30, 0}, {0, 30, 40}}, {{100, 20, 0}, {0, 30, 40}}} {
		wantErrno(t, fmt.Sprint("CheckPledge ", rows), plaint.CheckPledge(example(), 4, api.Pledge{Rows: rows}), api.OK)
	}
	for i, p := range badPledges() {
		wantErrno(t, fmt.Sprint("bad pledge ", i), plaint.CheckPledge(example(), 4, p), api.ErrPledge)
	}
	wantErrno(t, "CheckPledge of nothing", plaint.CheckPledge(example(), 1, api.Pledge{}), api.OK)
	wantErrno(t, "CheckPledge of a row", plaint.CheckPledge(example(), 1, api.Pledge{Rows: [][]int{{0, 0, 0}}}), api.ErrPledge)
}

// P7.1: numbers whose sums do not fit an int are no pledge, although the sums come round to what is needed and to what is left.
func TestPledgeBeyondAnInt(t *testing.T) {
	c := api.Case{Sureties: []api.Surety{{Id: 1, Worth: api.Range{Lo: 10, Hi: 10}}, {Id: 2, Worth: api.Range{Lo: 10, Hi: 10}}, {Id: 3, Worth: api.Range{Lo: 10, Hi: 10}}}}
	for id := range 2 {
		c.Plaints = append(c.Plaints, api.Plaint{Id: id + 1, Owner: 1, Beasts: []int{1}, Claim: api.Range{Hi: 1}, Sureties: []int{1, 2, 3}})
	}
	wantErrno(t, "CheckPledge", plaint.CheckPledge(c, 0, api.Pledge{Rows: [][]int{{0, 1, 0}, {0, 0, 1}}}), api.OK)
	row := []int{math.MaxInt, math.MaxInt, 3}
	wantErrno(t, "CheckPledge", plaint.CheckPledge(c, 0, api.Pledge{Rows: [][]int{row, row}}), api.ErrPledge)
}

// P7.1: Short begins with the first refused plaint, and leaves out the greatest Ids first.
func TestShort(t *testing.T) {
	shorts := 0
	each(3000, func(_ *rand.Rand, c api.Case, known int) {
		l, e := plaint.Short(c, known)
		if len(refusedOf(t, c, known)) == 0 {
			want(t, "Short", l, e, nil, api.ErrGood)
			return
		}
		want(t, fmt.Sprint("Short ", c, known), l, e, retoldShort(c, known), api.OK)
		if len(l) > 1 {
			shorts++
		}
	})
	if shorts < 200 {
		t.Error("too few short plaints: ", shorts)
	}
}

// P7.1: of several sets that are short that one without the greatest Ids is told.
func TestShortOfSeveral(t *testing.T) {
	c := api.Case{Sureties: []api.Surety{{Id: 1, Worth: api.Range{Lo: 10, Hi: 10}}, {Id: 2, Worth: api.Range{Lo: 10, Hi: 10}}}}
	for i, s := range [][]int{{1}, {2}, {1}, {2}} {
		c.Plaints = append(c.Plaints, api.Plaint{Id: i + 1, Owner: 1, Beasts: []int{1}, Claim: api.Range{Hi: 5}, Sureties: s})
	}
	c.Plaints = append(c.Plaints, api.Plaint{Id: 5, Owner: 1, Beasts: []int{1}, Claim: api.Range{Hi: 6}, Day: 1, Sureties: []int{1}})
	l, e := plaint.Short(c, 1)
	want(t, "Short", l, e, []int{1, 5}, api.OK)
	wantErrno(t, "CheckShort", plaint.CheckShort(c, 1, []int{3, 5}), api.OK)
	wantErrno(t, "CheckShort", plaint.CheckShort(c, 1, []int{1, 3, 5}), api.ErrSet)
	wantErrno(t, "CheckShort", plaint.CheckShort(c, 1, []int{2, 5}), api.ErrSet)
}

// P7.1: CheckShort accepts just the sets that are short, and of which no plaint can be left out.
func TestCheckShort(t *testing.T) {
	accepted := 0
	each(500, func(_ *rand.Rand, c api.Case, known int) {
		for mask := range 1 << len(c.Plaints) {
			var l []api.Plaint
			for i, p := range c.Plaints {
				if mask&(1<<i) != 0 {
					l = append(l, p)
				}
			}
			ok := isShort(l, c.Sureties)
			for i, p := range l {
				ok = ok && max(p.Day, p.Known) <= known && canPledge(slices.Delete(slices.Clone(l), i, i+1), c.Sureties, nil)
			}
			wanted := api.ErrSet
			if ok {
				wanted = api.OK
				accepted++
			}
			wantErrno(t, fmt.Sprint("CheckShort ", c, known, plaintIds(l)), plaint.CheckShort(c, known, plaintIds(l)), wanted)
		}
	})
	if accepted < 200 {
		t.Error("too few sets are accepted: ", accepted)
	}
}

// badSets are not short in the example on the day 6.
func badSets() [][]int {
	return [][]int{nil, {}, {5}, {6}, {9}, {5, 6}, {5, 9}, {6, 9}, {5, 6, 6, 9}, {9, 6, 5}, {5, 9, 6}, {5, 5, 6, 9}, {0, 5, 6, 9}, {5, 6, 9, 10}, {5, 6, 7, 9},
		{5, 6, 9, math.MaxInt}, {math.MinInt, 5, 6, 9}, make([]int, 100000)}
}

// P7.1: sets of the example; on a day on which one of them is not entered they are none.
func TestSetsOfTheExample(t *testing.T) {
	for known, wanted := range map[int]api.Errno{5: api.ErrSet, 6: api.OK, 20: api.OK} {
		wantErrno(t, fmt.Sprint("CheckShort on ", known), plaint.CheckShort(example(), known, []int{5, 6, 9}), wanted)
	}
	for i, l := range badSets() {
		wantErrno(t, fmt.Sprint("bad set ", i), plaint.CheckShort(example(), 6, l), api.ErrSet)
	}
}

// P7.1: the spare of a plaint goes beyond what a claim may be, and is not that of refused ones.
func TestSpareOfTheGreatest(t *testing.T) {
	c := fullCase()
	n, e := plaint.Spare(c, 999, api.MaxDay)
	want(t, "Spare", n, e, 2*api.MaxWorth, api.OK)
	c.Plaints, c.Findings = c.Plaints[:1], nil
	n, e = plaint.Spare(c, c.Plaints[0].Id, api.MaxDay)
	want(t, "Spare", n, e, 7*api.MaxWorth, api.OK)
	n, e = plaint.Spare(example(), 9, 6)
	want(t, "Spare", n, e, 0, api.ErrRefused)
	for id, wanted := range map[int]int{5: 10, 6: 10} {
		n, e := plaint.Spare(example(), id, 6)
		want(t, "Spare", n, e, wanted, api.OK)
	}
}
