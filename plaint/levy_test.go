package plaint_test

import (
	"fmt"
	"math/rand/v2"
	"slices"
	"testing"

	"pinfold/api"
	"pinfold/plaint"
)

// P7.1: what is owed in random cases is as the chapter tells it.
func TestOwed(t *testing.T) {
	each(300, func(_ *rand.Rand, c api.Case, known int) {
		owed := retoldOwed(c, known)
		for _, p := range retoldOrder(c, known) {
			for surety := range 20 {
				n, e := plaint.Owed(c, p.Id, surety, known)
				wanted, wantedE := owed[debt{p.Id, surety}], api.OK
				if surety != 0 && !slices.Contains(p.Sureties, surety) {
					wanted, wantedE = 0, api.ErrArg
				}
				want(t, fmt.Sprint("Owed ", c, p.Id, surety, known), n, e, wanted, wantedE)
			}
		}
	})
}

// P7.1: sureties owe by rising Ids, each at most what it pledged.
func TestOwedInTurn(t *testing.T) {
	c := example()
	for rest, wanted := range map[int][]int{0: {0, 0}, 1: {1, 0}, 99: {99, 0}, 100: {100, 0}, 101: {100, 1}, 120: {100, 20}} {
		c.Findings = []api.Finding{{Source: 1, Plaint: 5, Day: 4, Known: 4, Amount: rest}}
		for i, n := range wanted {
			want(t, fmt.Sprint("Owed of ", rest), owedOf(t, c, 5, i+1, 4), api.OK, n, api.OK)
		}
	}
}

// P7.1: the levies of random cases are those of each day.
func TestLevies(t *testing.T) {
	back := 0
	each(1500, func(_ *rand.Rand, c api.Case, known int) {
		wanted := retoldLevies(c, known)
		want(t, fmt.Sprint("Levies ", c, known), leviesOf(t, c, known), api.OK, wanted, api.OK)
		wantErrno(t, "CheckLevies", plaint.CheckLevies(c, known, wanted), api.OK)
		for _, l := range wanted {
			if l.Amount < 0 {
				back++
			}
		}
	})
	if back < 20 {
		t.Error("too little is given back: ", back)
	}
}

// wrongLevies are others than these.
func wrongLevies(l []api.Levy) [][]api.Levy {
	wrong := [][]api.Levy{append(slices.Clone(l), api.Levy{}), make([]api.Levy, 100000)}
	for i, x := range l {
		put := func(x api.Levy) {
			other := slices.Clone(l)
			other[i] = x
			wrong = append(wrong, other)
		}
		put(changed(x, func(x *api.Levy) { x.Known++ }))
		put(changed(x, func(x *api.Levy) { x.Plaint++ }))
		put(changed(x, func(x *api.Levy) { x.Surety++ }))
		put(changed(x, func(x *api.Levy) { x.Amount-- }))
		put(api.Levy{})
		wrong = append(wrong, slices.Delete(slices.Clone(l), i, i+1), slices.Insert(slices.Clone(l), i, x))
		if i > 0 {
			other := slices.Clone(l)
			other[i-1], other[i] = other[i], other[i-1]
			wrong = append(wrong, other)
		}
	}
	return wrong
}

// P7.1: levies that are not just those up to the day are refused.
func TestCheckLevies(t *testing.T) {
	each(100, func(_ *rand.Rand, c api.Case, known int) {
		l := leviesOf(t, c, known)
		for _, other := range wrongLevies(l) {
			wantErrno(t, fmt.Sprint("CheckLevies ", c, known, len(other)), plaint.CheckLevies(c, known, other), api.ErrLevies)
		}
	})
}

// P7.1: levies of the first day and of the last one.
func TestLeviesAtTheLimits(t *testing.T) {
	c := example()
	c.Plaints = c.Plaints[:1]
	c.Plaints[0].Day, c.Plaints[0].Known = 0, 0
	c.Findings = []api.Finding{{Source: 1, Plaint: 5, Day: api.MaxDay, Known: 0, Amount: 5, Pays: 5}, {Source: 2, Plaint: 5, Day: api.MaxDay, Known: api.MaxDay, Amount: 5}}
	want(t, "Levies", leviesOf(t, c, 0), api.OK, levies([][4]int{{0, 5, 0, 5}}), api.OK)
	want(t, "Levies", leviesOf(t, c, api.MaxDay-1), api.OK, levies([][4]int{{0, 5, 0, 5}}), api.OK)
	want(t, "Levies", leviesOf(t, c, api.MaxDay), api.OK, levies([][4]int{{0, 5, 0, 5}, {api.MaxDay, 5, 0, -5}, {api.MaxDay, 5, 1, 5}}), api.OK)
}

// P7.1: what has as much of all as a case may have is told, with the greatest numbers.
func TestFullCase(t *testing.T) {
	c := fullCase()
	want(t, "Allowed", allowedOf(t, c, api.MaxDay), api.OK, upTo(api.MaxPlea, api.MaxPlaints), api.OK)
	for i := range c.Findings {
		c.Findings[i].Known, c.Findings[i].Pays = api.MaxDay-api.MaxFindings+1+i, i%2
	}
	l := leviesOf(t, c, api.MaxDay)
	for _, p := range c.Plaints {
		f, _ := retoldFinding(c, p.Id, api.MaxDay)
		if got := leviedOn(l, p.Id, 0); got != f.Pays {
			t.Error(p.Id, got, f)
		}
	}
	for i := range c.Sureties {
		c.Sureties[i].Worth.Lo = api.MaxWorth * 6 / 8
	}
	for _, p := range c.Plaints {
		sum := 0
		for _, s := range append([]int{0}, p.Sureties...) {
			sum += owedOf(t, c, p.Id, s, api.MaxDay)
		}
		if sum != api.MaxWorth {
			t.Error(p.Id, sum)
		}
	}
}

// leviedOn adds up the levies on a plaint of a surety, or of its owner (0).
func leviedOn(l []api.Levy, id, surety int) int {
	n := 0
	for _, x := range l {
		if x.Plaint == id && x.Surety == surety {
			n += x.Amount
		}
	}
	return n
}

// P7.1: Moved has the plaints of which Found, Open or Owed tells something else without the finding.
func TestMoved(t *testing.T) {
	moved := 0
	each(600, func(_ *rand.Rand, c api.Case, known int) {
		for source := range 20 {
			got, e := plaint.Moved(c, source, known)
			rest, none := plaint.Without(c, source)
			if none != api.OK {
				want(t, "Moved", got, e, nil, api.ErrNone)
				continue
			}
			var wanted []int
			for _, p := range c.Plaints {
				if allOf(c, p, known) != allOf(rest, p, known) {
					wanted = append(wanted, p.Id)
					moved++
				}
			}
			want(t, fmt.Sprint("Moved ", c, source, known), got, e, wanted, api.OK)
		}
	})
	if moved < 100 {
		t.Error("too little is moved: ", moved)
	}
}

// allOf is all that Moved looks at.
func allOf(c api.Case, p api.Plaint, known int) string {
	s := one(plaint.Found(c, p.Id, known))
	open, _ := plaint.Open(c, known)
	s += fmt.Sprint(slices.Contains(open, p.Id))
	for _, surety := range append([]int{0}, p.Sureties...) {
		s += " " + one(plaint.Owed(c, p.Id, surety, known))
	}
	return s
}
