package plaint_test

import (
	"fmt"
	"math/rand/v2"
	"slices"
	"testing"

	"pinfold/api"
	"pinfold/plaint"
)

// P7.2: the plaints that are entered are good exactly if none of their sets is short, and if none of them is refused.
func TestGoodOrShort(t *testing.T) {
	each(1000, func(_ *rand.Rand, c api.Case, known int) {
		entered := retoldOrder(c, known)
		short := false
		for mask := range 1 << len(entered) {
			var l []api.Plaint
			for i, p := range entered {
				if mask&(1<<i) != 0 {
					l = append(l, p)
				}
			}
			short = short || isShort(l, c.Sureties)
		}
		if refused := refusedOf(t, c, known); short != (len(refused) > 0) {
			t.Error(c, known, short, refused)
		}
	})
}

// P7.2: the pledge is accepted; of a refused plaint Short names a set that is accepted, and is short.
func TestPledgeAndShortAreAccepted(t *testing.T) {
	each(2000, func(_ *rand.Rand, c api.Case, known int) {
		p, e := plaint.Pledge(c, known)
		wantErrno(t, "Pledge", e, api.OK)
		wantErrno(t, fmt.Sprint("CheckPledge ", c, known), plaint.CheckPledge(c, known, p), api.OK)
		set, e := plaint.Short(c, known)
		if e == api.ErrGood {
			return
		}
		wantErrno(t, fmt.Sprint("CheckShort ", c, known, set), plaint.CheckShort(c, known, set), api.OK)
		var l []api.Plaint
		for _, p := range c.Plaints {
			if slices.Contains(set, p.Id) {
				l = append(l, p)
			}
		}
		if len(l) != len(set) || !isShort(l, c.Sureties) {
			t.Error(c, known, set)
		}
	})
}

// P7.3: whatever is found within the claims, all of it is owed on an allowed plaint, and no surety owes more than its least worth.
func TestGoodForWhatIsFound(t *testing.T) {
	each(400, func(x *rand.Rand, c api.Case, _ int) {
		if len(c.Plaints) == 0 {
			return
		}
		c.Findings = nil
		for source := range 10 {
			more, e := plaint.Find(c, randomFinding(x, c, 1+source))
			wantErrno(t, "Find", e, api.OK)
			c = more
			wantCovered(t, c, randomDay(x))
			wantCovered(t, c, lastDay)
		}
	})
}

func wantCovered(t *testing.T, c api.Case, known int) {
	t.Helper()
	bySurety := map[int]int{}
	for _, p := range retoldOrder(c, known) {
		sum := owedOf(t, c, p.Id, 0, known)
		for _, s := range p.Sureties {
			n := owedOf(t, c, p.Id, s, known)
			bySurety[s] += n
			sum += n
			if n < 0 {
				t.Error(c, known, p.Id, s, n)
			}
		}
		found, _ := plaint.Found(c, p.Id, known)
		if slices.Contains(refusedOf(t, c, known), p.Id) {
			found = 0
		}
		if sum != found {
			t.Error(c, known, p.Id, sum, found)
		}
	}
	for _, s := range c.Sureties {
		if bySurety[s.Id] > s.Worth.Lo {
			t.Error(c, known, s, bySurety[s.Id])
		}
	}
}

// isPart reports whether all numbers of a list are in another one.
func isPart(l, whole []int) bool {
	return !slices.ContainsFunc(l, func(n int) bool { return !slices.Contains(whole, n) })
}

// P7.4: a plaint that is allowed, or refused, stays so on later days.
func TestAllowedStaysAllowed(t *testing.T) {
	each(600, func(_ *rand.Rand, c api.Case, _ int) {
		for known := range lastDay {
			if !isPart(allowedOf(t, c, known), allowedOf(t, c, known+1)) || !isPart(refusedOf(t, c, known), refusedOf(t, c, known+1)) {
				t.Error(c, known)
			}
		}
	})
}

// P7.4: what becomes known later, plaints and findings, changes nothing that is as known on a day.
func TestLaterOnesChangeNothing(t *testing.T) {
	each(1500, func(x *rand.Rand, c api.Case, known int) {
		if len(c.Plaints) == 0 || len(c.Plaints) == api.MaxPlaints {
			return
		}
		p := randomPlaint(x, c, 500)
		p.Id = pick(x, 500, 1)
		p.Known = known + 1 + x.IntN(3)
		f := randomFinding(x, c, 999)
		f.Known = p.Known
		more, e := plaint.Plead(c, p)
		if e != api.OK {
			return // there is one with the Id 1
		}
		more, e = plaint.Find(more, f)
		wantErrno(t, "Find", e, api.OK)
		want(t, "Allowed", allowedOf(t, more, known), api.OK, allowedOf(t, c, known), api.OK)
		want(t, "Refused", refusedOf(t, more, known), api.OK, refusedOf(t, c, known), api.OK)
		want(t, "Pledge", pledgeOf(t, more, known), api.OK, pledgeOf(t, c, known), api.OK)
		want(t, "Levies", leviesOf(t, more, known), api.OK, leviesOf(t, c, known), api.OK)
		if !isPart(allowedOf(t, c, lastDay), allowedOf(t, c, lastDay+9)) {
			t.Error(c)
		}
	})
}

// P7.4: just the beasts of open plaints are free, and an open plaint is one that is allowed and on which nothing is found.
func TestFreeByOpenPlaints(t *testing.T) {
	each(1000, func(_ *rand.Rand, c api.Case, known int) {
		open, e := plaint.Open(c, known)
		wantErrno(t, "Open", e, api.OK)
		free, e := plaint.Free(c, known)
		wantErrno(t, "Free", e, api.OK)
		var beasts []int
		for _, p := range c.Plaints {
			if slices.Contains(open, p.Id) {
				beasts = append(beasts, p.Beasts...)
			}
			_, none := plaint.Found(c, p.Id, known)
			if slices.Contains(open, p.Id) != (none == api.ErrNone && slices.Contains(allowedOf(t, c, known), p.Id)) {
				t.Error(c, known, p.Id)
			}
		}
		slices.Sort(beasts)
		want(t, "Free", free, e, slices.Compact(beasts), api.OK)
	})
}

// P7.5: up to each day the levies add up to what is owed; none is 0, none is on a day that is none of Dates, and all are several.
func TestLeviedOnce(t *testing.T) {
	each(300, func(_ *rand.Rand, c api.Case, _ int) {
		dates, e := plaint.Dates(c)
		wantErrno(t, "Dates", e, api.OK)
		for known := range lastDay + 1 {
			l := leviesOf(t, c, known)
			for _, p := range c.Plaints {
				for _, s := range append([]int{0}, p.Sureties...) {
					owed, _ := plaint.Owed(c, p.Id, s, known)
					if levied := leviedOn(l, p.Id, s); levied != owed {
						t.Error(c, known, p.Id, s, levied, owed)
					}
				}
			}
			seen := map[api.Levy]bool{}
			for _, x := range l {
				if x.Amount == 0 || x.Known > known || !slices.Contains(dates, x.Known) {
					t.Error(c, known, x)
				}
				x.Amount = 0
				if seen[x] {
					t.Error(c, known, x)
				}
				seen[x] = true
			}
		}
	})
}

// P7.6: a finding that is not in force moves nothing; one that is moves at most its own plaint.
func TestMovedIsInForce(t *testing.T) {
	each(1500, func(_ *rand.Rand, c api.Case, known int) {
		for _, f := range c.Findings {
			moved, e := plaint.Moved(c, f.Source, known)
			wantErrno(t, "Moved", e, api.OK)
			if last, ok := retoldFinding(c, f.Plaint, known); (!ok || last != f) && len(moved) > 0 || !isPart(moved, []int{f.Plaint}) {
				t.Error(c, f, known, moved)
			}
		}
	})
}

// P7.7: if a need is greater by so much as Spare tells, the plaints are good; by one more they are not.
func TestSpare(t *testing.T) {
	each(1000, func(_ *rand.Rand, c api.Case, known int) {
		allowed, refused := retoldAllowed(c, known)
		for i, p := range allowed {
			n, e := plaint.Spare(c, p.Id, known)
			wantErrno(t, "Spare", e, api.OK)
			for more, wanted := range []bool{true, false} {
				l := slices.Clone(allowed)
				l[i].Claim.Hi += n + more
				if n < 0 || canPledge(l, c.Sureties, nil) != wanted {
					t.Error(c, known, p.Id, n, more)
				}
				got, e := plaint.Refused(api.Case{Plaints: l, Sureties: c.Sureties}, known)
				want(t, fmt.Sprint("Refused ", c, p.Id, n, more), len(got) == 0, e, wanted, api.OK)
			}
		}
		for _, p := range refused {
			n, e := plaint.Spare(c, p.Id, known)
			want(t, "Spare", n, e, 0, api.ErrRefused)
		}
	})
}
