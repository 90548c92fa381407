package plaint_test

import (
	"fmt"
	"math"
	"math/rand/v2"
	"slices"
	"testing"

	"pinfold/api"
	"pinfold/plaint"
)

// changed is a value with a change.
func changed[T any](x T, change func(x *T)) T {
	change(&x)
	return x
}

// outside are numbers just beyond limits, and far from them.
func outside(lo, hi int) []int { return []int{lo - 1, hi + 1, math.MinInt, math.MaxInt} }

// spoilt has a value for each that a field of it must not be.
func spoilt[T, F any](x T, of func(x *T) *F, bad ...F) []T {
	var l []T
	for _, f := range bad {
		l = append(l, changed(x, func(x *T) { *of(x) = f }))
	}
	return l
}

// badWorths are ranges of pence that may not be.
func badWorths() []api.Range {
	return []api.Range{{Lo: -1, Hi: 0}, {Lo: 0, Hi: -1}, {Lo: -2, Hi: -1}, {Lo: 2, Hi: 1}, {Lo: 0, Hi: api.MaxWorth + 1}, {Lo: api.MaxWorth + 1, Hi: api.MaxWorth + 1},
		{Lo: api.MaxWorth, Hi: api.MaxWorth - 1}, {Lo: math.MinInt, Hi: math.MaxInt}, {Lo: 0, Hi: math.MaxInt}, {Lo: math.MaxInt, Hi: math.MinInt}, {Lo: math.MinInt, Hi: 0}}
}

// goodWorths are ranges at their limits.
func goodWorths() []api.Range {
	return []api.Range{{}, {Lo: 0, Hi: api.MaxWorth}, {Lo: api.MaxWorth, Hi: api.MaxWorth}, {Lo: 5, Hi: 5}, {Lo: 5, Hi: 6}}
}

// badNumbers are lists that may not be: of at most so many numbers, up to a greatest one.
func badNumbers(most, greatest int) [][]int {
	return [][]int{nil, {}, {0}, {-1}, {greatest + 1}, {0, 1}, {1, greatest + 1}, {1, 1}, {2, 1}, {1, 3, 3}, {1, 3, 2}, {math.MinInt}, {math.MaxInt}, upTo(greatest, most+1),
		make([]int, 100000)}
}

// fullPlaint has the greatest numbers that a plaint may have.
func fullPlaint() api.Plaint { return fullCase().Plaints[api.MaxPlaints-1] }

// badPlaints are not valid.
func badPlaints() []api.Plaint {
	p := fullPlaint()
	return slices.Concat(
		spoilt(p, func(p *api.Plaint) *int { return &p.Id }, outside(1, api.MaxPlea)...),
		spoilt(p, func(p *api.Plaint) *int { return &p.Owner }, outside(1, api.MaxOwner)...),
		spoilt(p, func(p *api.Plaint) *[]int { return &p.Beasts }, badNumbers(api.MaxNamed, api.MaxBeast)...),
		spoilt(p, func(p *api.Plaint) *api.Range { return &p.Claim }, badWorths()...),
		spoilt(p, func(p *api.Plaint) *int { return &p.Day }, outside(0, api.MaxDay)...),
		spoilt(p, func(p *api.Plaint) *int { return &p.Known }, outside(0, api.MaxDay)...),
		spoilt(p, func(p *api.Plaint) *[]int { return &p.Sureties }, badNumbers(api.MaxSureties, api.MaxPlea)...),
	)
}

// P7.1: plaints, at their limits and one beyond them.
func TestCheckPlaint(t *testing.T) {
	least := api.Plaint{Id: 1, Owner: 1, Beasts: []int{1}, Sureties: []int{1}}
	for _, p := range []api.Plaint{least, fullPlaint(), example().Plaints[0], changed(least, func(p *api.Plaint) { p.Beasts = upTo(12, 12) }),
		changed(least, func(p *api.Plaint) { p.Sureties = upTo(8, 8) }), changed(least, func(p *api.Plaint) { p.Day = 9 })} {
		for _, claim := range goodWorths() {
			p.Claim = claim
			wantErrno(t, fmt.Sprint(p), plaint.CheckPlaint(p), api.OK)
		}
	}
	for _, p := range badPlaints() {
		wantErrno(t, fmt.Sprint(p.Id, p.Owner, len(p.Beasts), p.Claim, p.Day, p.Known, len(p.Sureties)), plaint.CheckPlaint(p), api.ErrPlaint)
	}
}

// badSureties are not valid.
func badSureties() []api.Surety {
	s := api.Surety{Id: api.MaxPlea, Worth: api.Range{Lo: api.MaxWorth, Hi: api.MaxWorth}}
	return slices.Concat(
		spoilt(s, func(s *api.Surety) *int { return &s.Id }, outside(1, api.MaxPlea)...),
		spoilt(s, func(s *api.Surety) *api.Range { return &s.Worth }, badWorths()...),
	)
}

// P7.1: sureties, at their limits and one beyond them.
func TestCheckSurety(t *testing.T) {
	for _, id := range []int{1, 2, api.MaxPlea} {
		for _, worth := range goodWorths() {
			wantErrno(t, fmt.Sprint(id, worth), plaint.CheckSurety(api.Surety{Id: id, Worth: worth}), api.OK)
		}
	}
	for _, s := range badSureties() {
		wantErrno(t, fmt.Sprint(s), plaint.CheckSurety(s), api.ErrSurety)
	}
}

// badFindings are not valid.
func badFindings() []api.Finding {
	f := fullCase().Findings[api.MaxFindings-1]
	l := slices.Concat(
		spoilt(f, func(f *api.Finding) *int { return &f.Source }, outside(1, api.MaxSource)...),
		spoilt(f, func(f *api.Finding) *int { return &f.Plaint }, outside(1, api.MaxPlea)...),
		spoilt(f, func(f *api.Finding) *int { return &f.Day }, outside(0, api.MaxDay)...),
		spoilt(f, func(f *api.Finding) *int { return &f.Known }, outside(0, api.MaxDay)...),
		spoilt(f, func(f *api.Finding) *int { return &f.Pays }, outside(0, api.MaxWorth)...),
	)
	for _, amounts := range [][2]int{{-1, 0}, {-1, -1}, {5, 6}, {0, 1}, {5, -1}, {api.MaxWorth + 1, 0}, {api.MaxWorth + 1, api.MaxWorth + 1}, {math.MaxInt, 0}, {math.MinInt, math.MinInt}} {
		f.Amount, f.Pays = amounts[0], amounts[1]
		l = append(l, f)
	}
	return l
}

// P7.1: findings, at their limits and one beyond them.
func TestCheckFinding(t *testing.T) {
	for _, f := range []api.Finding{{Source: 1, Plaint: 1}, fullCase().Findings[59], {Source: 1, Plaint: 1, Amount: 5}, {Source: 1, Plaint: 1, Amount: 5, Pays: 5},
		{Source: api.MaxSource, Plaint: api.MaxPlea, Day: api.MaxDay, Amount: api.MaxWorth}, {Source: 1, Plaint: 1, Known: api.MaxDay, Amount: 5, Pays: 4}} {
		wantErrno(t, fmt.Sprint(f), plaint.CheckFinding(f), api.OK)
	}
	for _, f := range badFindings() {
		wantErrno(t, fmt.Sprint(f), plaint.CheckFinding(f), api.ErrFinding)
	}
}

// badCases are not valid: each has one thing that may not be.
func badCases() []api.Case {
	var l []api.Case
	change := func(f func(c *api.Case)) { l = append(l, changed(fullCase(), f)) }
	for _, p := range badPlaints() {
		change(func(c *api.Case) { c.Plaints[0] = p })
	}
	for _, s := range badSureties() {
		change(func(c *api.Case) { c.Sureties[api.MaxSureties-1] = s })
	}
	for _, f := range badFindings() {
		change(func(c *api.Case) { c.Findings[api.MaxFindings-1] = f })
	}
	change(func(c *api.Case) { c.Plaints[0].Id = c.Plaints[1].Id; c.Findings = nil })
	change(func(c *api.Case) { c.Plaints[4], c.Plaints[5] = c.Plaints[5], c.Plaints[4] })
	change(func(c *api.Case) { c.Sureties[1] = c.Sureties[0] })
	change(func(c *api.Case) { c.Sureties[0], c.Sureties[1] = c.Sureties[1], c.Sureties[0] })
	change(func(c *api.Case) { c.Findings[58].Source = c.Findings[59].Source })
	change(func(c *api.Case) { c.Findings[0], c.Findings[1] = c.Findings[1], c.Findings[0] })
	change(func(c *api.Case) {
		c.Plaints = slices.Insert(c.Plaints, 0, changed(c.Plaints[0], func(p *api.Plaint) { p.Id = 1 }))
	})
	change(func(c *api.Case) { c.Sureties = slices.Insert(c.Sureties, 0, api.Surety{Id: 1}) })
	change(func(c *api.Case) { c.Findings = slices.Insert(c.Findings, 0, api.Finding{Source: 1, Plaint: 999}) })
	change(func(c *api.Case) { c.Sureties = c.Sureties[1:] })
	change(func(c *api.Case) { c.Sureties = nil })
	change(func(c *api.Case) { c.Plaints[3].Sureties[0] = 1 })
	change(func(c *api.Case) { c.Plaints = c.Plaints[:5] })
	change(func(c *api.Case) { c.Findings[0].Plaint = 1 })
	change(func(c *api.Case) { c.Plaints[2].Claim = api.Range{Hi: api.MaxWorth - 1} })
	return l
}

// P7.1: cases, at their limits and one beyond them.
func TestCheck(t *testing.T) {
	lone := api.Case{Sureties: []api.Surety{{Id: 1}, {Id: 2}}}
	for _, c := range []api.Case{{}, {Plaints: []api.Plaint{}, Sureties: []api.Surety{}, Findings: []api.Finding{}}, lone, example(), fullCase()} {
		wantErrno(t, fmt.Sprint(c), plaint.Check(c), api.OK)
	}
	for i, c := range badCases() {
		wantErrno(t, fmt.Sprint("bad case ", i), plaint.Check(c), api.ErrCase)
	}
	each(200, func(_ *rand.Rand, c api.Case, _ int) { wantErrno(t, fmt.Sprint(c), plaint.Check(c), api.OK) })
}

// P7.1: Plead puts a plaint at its place.
func TestPlead(t *testing.T) {
	each(300, func(x *rand.Rand, c api.Case, _ int) {
		if len(c.Sureties) == 0 || len(c.Plaints) == api.MaxPlaints {
			return
		}
		p := randomPlaint(x, c, 1+x.IntN(20))
		got, e := plaint.Plead(c, p)
		if slices.ContainsFunc(c.Plaints, func(q api.Plaint) bool { return q.Id == p.Id }) {
			want(t, "Plead", got, e, api.Case{}, api.ErrPlaint)
			return
		}
		wanted := cloneCase(c)
		wanted.Plaints = append(wanted.Plaints, p)
		slices.SortFunc(wanted.Plaints, func(p, q api.Plaint) int { return p.Id - q.Id })
		want(t, "Plead", got, e, wanted, api.OK)
	})
}

// P7.1: a plaint more than there may be; one that is not valid, or has another one's Id, or a surety that there is none of, goes ahead.
func TestPleadTooMany(t *testing.T) {
	c := fullCase()
	p := changed(c.Plaints[0], func(p *api.Plaint) { p.Id = 1 })
	got, e := plaint.Plead(c, p)
	want(t, "Plead", got, e, api.Case{}, api.ErrLong)
	for _, p := range append(badPlaints(), c.Plaints[0], c.Plaints[5], changed(p, func(p *api.Plaint) { p.Sureties = []int{1, 999} }),
		changed(p, func(p *api.Plaint) { p.Sureties = []int{991} })) {
		got, e := plaint.Plead(c, p)
		want(t, "Plead", got, e, api.Case{}, api.ErrPlaint)
	}
	c.Findings = nil
	last := c.Plaints[5]
	c.Plaints = c.Plaints[:5]
	got, e = plaint.Plead(c, last)
	wanted := fullCase()
	wanted.Findings = nil
	want(t, "Plead", got, e, wanted, api.OK)
	got, e = plaint.Plead(api.Case{}, p)
	want(t, "Plead", got, e, api.Case{}, api.ErrPlaint)
}

// P7.1: Find puts a finding at its place, and Without takes it away again.
func TestFind(t *testing.T) {
	each(300, func(x *rand.Rand, c api.Case, _ int) {
		if len(c.Plaints) == 0 {
			return
		}
		f := randomFinding(x, c, 1+x.IntN(20))
		got, e := plaint.Find(c, f)
		if slices.ContainsFunc(c.Findings, func(g api.Finding) bool { return g.Source == f.Source }) {
			want(t, "Find", got, e, api.Case{}, api.ErrFinding)
			return
		}
		wanted := cloneCase(c)
		wanted.Findings = append(wanted.Findings, f)
		slices.SortFunc(wanted.Findings, func(f, g api.Finding) int { return f.Source - g.Source })
		want(t, "Find", got, e, wanted, api.OK)
		back, e := plaint.Without(got, f.Source)
		want(t, "Without", back, e, c, api.OK)
		back, e = plaint.Without(c, f.Source)
		want(t, "Without", back, e, api.Case{}, api.ErrNone)
	})
}

// P7.1: a finding more than there may be; one that is not valid, has another one's Source, or is not of a claim of the case, goes ahead.
func TestFindTooMany(t *testing.T) {
	c := fullCase()
	c.Plaints[0].Claim.Lo = 0
	f := api.Finding{Source: 1, Plaint: 999, Amount: api.MaxWorth}
	got, e := plaint.Find(c, f)
	want(t, "Find", got, e, api.Case{}, api.ErrLong)
	for _, f := range append(badFindings(), c.Findings[0], c.Findings[59], changed(f, func(f *api.Finding) { f.Plaint = 993 }), changed(f, func(f *api.Finding) { f.Plaint = 1 })) {
		got, e := plaint.Find(c, f)
		want(t, "Find", got, e, api.Case{}, api.ErrFinding)
	}
	c = fullCase()
	last := c.Findings[59]
	c.Findings = c.Findings[:59]
	got, e = plaint.Find(c, last)
	want(t, "Find", got, e, fullCase(), api.OK)
}

// P7.1: a finding may be of all that is claimed, and not of more.
func TestFindWithinTheClaim(t *testing.T) {
	for amount, wanted := range map[int]api.Errno{0: api.OK, 69: api.OK, 70: api.OK, 71: api.ErrFinding, api.MaxWorth: api.ErrFinding} {
		_, e := plaint.Find(example(), api.Finding{Source: 1, Plaint: 6, Amount: amount})
		wantErrno(t, fmt.Sprint("Find ", amount), e, wanted)
	}
}
