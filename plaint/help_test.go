package plaint_test

import (
	"fmt"
	"math/rand/v2"
	"slices"
	"testing"

	"pinfold/api"
	"pinfold/plaint"
)

// example is the case C of the chapter's examples.
func example() api.Case {
	return api.Case{
		Plaints: []api.Plaint{
			{Id: 5, Owner: 7, Beasts: []int{10, 11}, Claim: api.Range{Lo: 50, Hi: 120}, Day: 2, Known: 2, Sureties: []int{1, 2}},
			{Id: 6, Owner: 8, Beasts: []int{11, 12}, Claim: api.Range{Lo: 0, Hi: 70}, Day: 3, Known: 4, Sureties: []int{2, 3}},
			{Id: 9, Owner: 7, Beasts: []int{20}, Claim: api.Range{Lo: 0, Hi: 40}, Day: 6, Known: 6, Sureties: []int{1, 3}},
		},
		Sureties: []api.Surety{
			{Id: 1, Worth: api.Range{Lo: 100, Hi: 150}},
			{Id: 2, Worth: api.Range{Lo: 60, Hi: 60}},
			{Id: 3, Worth: api.Range{Lo: 40, Hi: 90}},
		},
		Findings: []api.Finding{
			{Source: 30, Plaint: 5, Day: 8, Known: 8, Amount: 110, Pays: 20},
			{Source: 31, Plaint: 5, Day: 9, Known: 12, Amount: 60, Pays: 60},
		},
	}
}

// upTo are so many numbers, up to the greatest one.
func upTo(greatest, many int) []int {
	var l []int
	for n := greatest - many + 1; n <= greatest; n++ {
		l = append(l, n)
	}
	return l
}

// fullCase has as much of all as a case may have.
func fullCase() api.Case {
	var c api.Case
	most := api.Range{Lo: api.MaxWorth, Hi: api.MaxWorth}
	for _, id := range upTo(api.MaxPlea, api.MaxPlaints) {
		c.Plaints = append(c.Plaints, api.Plaint{Id: id, Owner: api.MaxOwner, Beasts: upTo(api.MaxBeast, api.MaxNamed), Claim: most,
			Day: api.MaxDay, Known: api.MaxDay, Sureties: upTo(api.MaxPlea, api.MaxSureties)})
	}
	for _, id := range upTo(api.MaxPlea, api.MaxSureties) {
		c.Sureties = append(c.Sureties, api.Surety{Id: id, Worth: most})
	}
	for i, source := range upTo(api.MaxSource, api.MaxFindings) {
		c.Findings = append(c.Findings, api.Finding{Source: source, Plaint: c.Plaints[i%api.MaxPlaints].Id, Day: api.MaxDay, Known: api.MaxDay,
			Amount: api.MaxWorth, Pays: api.MaxWorth})
	}
	return c
}

// levies are those with these numbers: known, plaint, surety and amount.
func levies(rows [][4]int) []api.Levy {
	var l []api.Levy
	for _, r := range rows {
		l = append(l, api.Levy{Known: r[0], Plaint: r[1], Surety: r[2], Amount: r[3]})
	}
	return l
}

func clonePlaint(p api.Plaint) api.Plaint {
	p.Beasts, p.Sureties = slices.Clone(p.Beasts), slices.Clone(p.Sureties)
	return p
}

func cloneCase(c api.Case) api.Case {
	var plaints []api.Plaint
	for _, p := range c.Plaints {
		plaints = append(plaints, clonePlaint(p))
	}
	return api.Case{Plaints: plaints, Sureties: slices.Clone(c.Sureties), Findings: slices.Clone(c.Findings)}
}

// lastDay is behind all days of random cases.
const lastDay = 16

func newRandom() *rand.Rand { return rand.New(rand.NewPCG(7, 20)) }

// pick is one of some values.
func pick[T any](x *rand.Rand, l ...T) T { return l[x.IntN(len(l))] }

func randomDay(x *rand.Rand) int { return x.IntN(lastDay + 1) }

func randomRange(x *rand.Rand, most int) api.Range {
	hi := x.IntN(most + 1)
	return api.Range{Lo: x.IntN(hi + 1), Hi: hi}
}

// some are one or more of rising numbers.
func some(x *rand.Rand, l []int) []int {
	var chosen []int
	for len(chosen) == 0 {
		for _, n := range l {
			if x.IntN(2) == 0 {
				chosen = append(chosen, n)
			}
		}
	}
	return chosen
}

// randomIds are rising, with gaps between some of them.
func randomIds(x *rand.Rand, most int) []int {
	var l []int
	id := 1
	for range x.IntN(most + 1) {
		id += x.IntN(3)
		l = append(l, id)
		id++
	}
	return l
}

func idsOf(c api.Case) []int {
	var l []int
	for _, s := range c.Sureties {
		l = append(l, s.Id)
	}
	return l
}

// randomPlaint is one on sureties that a case has.
func randomPlaint(x *rand.Rand, c api.Case, id int) api.Plaint {
	day := x.IntN(lastDay - 2)
	return api.Plaint{Id: id, Owner: 1 + x.IntN(3), Beasts: some(x, []int{3, 4, 5, 6, 9}), Claim: randomRange(x, 9), Day: day,
		Known: pick(x, day, day, x.IntN(lastDay-2)), Sureties: some(x, idsOf(c))}
}

// randomFinding is one on a plaint of a case, and within its claim.
func randomFinding(x *rand.Rand, c api.Case, source int) api.Finding {
	p := pick(x, c.Plaints...)
	f := api.Finding{Source: source, Plaint: p.Id, Day: randomDay(x), Known: x.IntN(lastDay), Amount: x.IntN(p.Claim.Hi + 1)}
	f.Pays = x.IntN(f.Amount + 1)
	return f
}

// randomCase has few sureties, of which one mostly stands for several plaints, so that some of these are refused.
func randomCase(x *rand.Rand) api.Case {
	var c api.Case
	for _, id := range randomIds(x, 5) {
		worth := randomRange(x, 12)
		worth.Lo = max(worth.Lo, x.IntN(worth.Hi+1))
		c.Sureties = append(c.Sureties, api.Surety{Id: id, Worth: worth})
	}
	if len(c.Sureties) == 0 {
		return c
	}
	for _, id := range randomIds(x, api.MaxPlaints) {
		c.Plaints = append(c.Plaints, randomPlaint(x, c, id))
	}
	if len(c.Plaints) == 0 {
		return c
	}
	for _, source := range randomIds(x, 8) {
		c.Findings = append(c.Findings, randomFinding(x, c, source))
	}
	return c
}

// each has random cases, and a day of each.
func each(times int, ask func(x *rand.Rand, c api.Case, known int)) {
	x := newRandom()
	for range times {
		ask(x, randomCase(x), randomDay(x))
	}
}

// one has a result and its error in one text.
func one[T any](x T, e api.Errno) string { return fmt.Sprint(x, " ", int(e)) }

func want[T any](t *testing.T, name string, got T, e api.Errno, wanted T, wantedE api.Errno) {
	t.Helper()
	if g, w := one(got, e), one(wanted, wantedE); g != w {
		t.Errorf("%s: %s; want %s", name, g, w)
	}
}

func wantErrno(t *testing.T, name string, e, wanted api.Errno) {
	t.Helper()
	if e != wanted {
		t.Errorf("%s: %d; want %d", name, e, wanted)
	}
}

// right is the result of what has no error.
func right[T any](t *testing.T, name string) func(x T, e api.Errno) T {
	return func(x T, e api.Errno) T {
		t.Helper()
		wantErrno(t, name, e, api.OK)
		return x
	}
}

// allowedOf, refusedOf, pledgeOf, leviesOf and owedOf are those of what has no error.
func allowedOf(t *testing.T, c api.Case, known int) []int {
	t.Helper()
	return right[[]int](t, fmt.Sprint("Allowed ", c, known))(plaint.Allowed(c, known))
}

func refusedOf(t *testing.T, c api.Case, known int) []int {
	t.Helper()
	return right[[]int](t, fmt.Sprint("Refused ", c, known))(plaint.Refused(c, known))
}

func pledgeOf(t *testing.T, c api.Case, known int) [][]int {
	t.Helper()
	return right[api.Pledge](t, fmt.Sprint("Pledge ", c, known))(plaint.Pledge(c, known)).Rows
}

func leviesOf(t *testing.T, c api.Case, known int) []api.Levy {
	t.Helper()
	return right[[]api.Levy](t, fmt.Sprint("Levies ", c, known))(plaint.Levies(c, known))
}

func owedOf(t *testing.T, c api.Case, id, surety, known int) int {
	t.Helper()
	return right[int](t, fmt.Sprint("Owed ", c, id, surety, known))(plaint.Owed(c, id, surety, known))
}
