package plaint_test

import (
	"slices"

	"pinfold/api"
)

// The chapter, told again in a plain way: pledges are looked for pound by pound, not by sets, and levies on each day.

// A promise is how much of which surety was pledged for which plaint by now.
type promise struct {
	plaints []api.Plaint
	means   map[int]int         // what is left of each surety
	given   []map[int]int       // of each plaint, by sureties
	may     func(i, s int) bool // whether a surety may pledge for a plaint
}

// more pledges one more for a plaint: by a surety of which something is left, or that another plaint can do without.
func (m promise) more(i int, seen map[int]bool) bool {
	for _, s := range m.plaints[i].Sureties {
		if seen[s] || !m.may(i, s) {
			continue
		}
		seen[s] = true
		if m.means[s] > 0 {
			m.means[s]--
			m.given[i][s]++
			return true
		}
		for k := range m.plaints {
			if m.given[k][s] > 0 && m.more(k, seen) {
				m.given[k][s]--
				m.given[i][s]++
				return true
			}
		}
	}
	return false
}

// canPledge reports whether there is a pledge of plaints which has these numbers ahead of the others.
func canPledge(l []api.Plaint, sureties []api.Surety, ahead []int) bool {
	m := promise{plaints: l, means: map[int]int{}}
	m.may = func(i, s int) bool {
		at := slices.IndexFunc(sureties, func(x api.Surety) bool { return x.Id == s })
		return i*len(sureties)+at >= len(ahead)
	}
	for _, s := range sureties {
		m.means[s.Id] = s.Worth.Lo
	}
	needs := make([]int, len(l))
	for i, p := range l {
		needs[i] = p.Claim.Hi
		m.given = append(m.given, map[int]int{})
	}
	for k, n := range ahead {
		s := sureties[k%len(sureties)].Id
		m.means[s] -= n
		needs[k/len(sureties)] -= n
		if m.means[s] < 0 || needs[k/len(sureties)] < 0 || n > 0 && !slices.Contains(l[k/len(sureties)].Sureties, s) {
			return false
		}
	}
	for i, need := range needs {
		for range need {
			if !m.more(i, map[int]bool{}) {
				return false
			}
		}
	}
	return true
}

// retoldOrder has the plaints that are entered by a day, in the order in which they are.
func retoldOrder(c api.Case, known int) []api.Plaint {
	var l []api.Plaint
	for day := range known + 1 {
		for _, p := range c.Plaints {
			if max(p.Day, p.Known) == day {
				l = append(l, p)
			}
		}
	}
	return l
}

// retoldAllowed has the plaints that are allowed, by Ids, and those that are refused, in the order in which they are entered.
func retoldAllowed(c api.Case, known int) (allowed, refused []api.Plaint) {
	for _, p := range retoldOrder(c, known) {
		if canPledge(append(slices.Clone(allowed), p), c.Sureties, nil) {
			allowed = append(allowed, p)
		} else {
			refused = append(refused, p)
		}
	}
	slices.SortFunc(allowed, func(p, q api.Plaint) int { return p.Id - q.Id })
	return allowed, refused
}

// plaintIds are those of plaints, rising.
func plaintIds(l []api.Plaint) []int {
	var ids []int
	for _, p := range l {
		ids = append(ids, p.Id)
	}
	slices.Sort(ids)
	return ids
}

// retoldPledge tries for each number the greatest ones first.
func retoldPledge(l []api.Plaint, sureties []api.Surety) [][]int {
	var rows [][]int
	var ahead []int
	for _, p := range l {
		for range sureties {
			n := p.Claim.Hi
			for !canPledge(l, sureties, append(slices.Clone(ahead), n)) {
				n--
			}
			ahead = append(ahead, n)
		}
		rows = append(rows, ahead[len(ahead)-len(sureties):])
	}
	return rows
}

// retoldFinding is the finding in force: the last one by Days, and of one day by Sources.
func retoldFinding(c api.Case, id, known int) (api.Finding, bool) {
	var l []api.Finding
	for _, f := range c.Findings {
		if f.Plaint == id && f.Known <= known {
			l = append(l, f)
		}
	}
	if len(l) == 0 {
		return api.Finding{}, false
	}
	return slices.MaxFunc(l, func(f, g api.Finding) int {
		if f.Day != g.Day {
			return f.Day - g.Day
		}
		return f.Source - g.Source
	}), true
}

// debt is of a plaint and a surety, or its owner (0).
type debt struct{ plaint, surety int }

// retoldOwed is all that is owed on a day.
func retoldOwed(c api.Case, known int) map[debt]int {
	owed := map[debt]int{}
	allowed, _ := retoldAllowed(c, known)
	rows := retoldPledge(allowed, c.Sureties)
	for i, p := range allowed {
		f, ok := retoldFinding(c, p.Id, known)
		if !ok {
			continue
		}
		owed[debt{p.Id, 0}] = f.Pays
		rest := f.Amount - f.Pays
		for j, s := range c.Sureties {
			owed[debt{p.Id, s.Id}] = min(rest, rows[i][j])
			rest -= min(rest, rows[i][j])
		}
	}
	return owed
}

// retoldLevies asks on each day for what is owed now and was not the day ahead.
func retoldLevies(c api.Case, known int) []api.Levy {
	var l []api.Levy
	before := map[debt]int{}
	for day := range known + 1 {
		now := retoldOwed(c, day)
		for _, p := range c.Plaints {
			for _, s := range append([]int{0}, p.Sureties...) {
				if n := now[debt{p.Id, s}] - before[debt{p.Id, s}]; n != 0 {
					l = append(l, api.Levy{Known: day, Plaint: p.Id, Surety: s, Amount: n})
				}
			}
		}
		before = now
	}
	return l
}

// isShort reports whether plaints need more than all their sureties are good for.
func isShort(l []api.Plaint, sureties []api.Surety) bool {
	needs, means := 0, 0
	for _, p := range l {
		needs += p.Claim.Hi
	}
	for _, s := range sureties {
		if slices.ContainsFunc(l, func(p api.Plaint) bool { return slices.Contains(p.Sureties, s.Id) }) {
			means += s.Worth.Lo
		}
	}
	return needs > means
}

// retoldShort begins with the first plaint that is refused and those that were allowed ahead of it.
func retoldShort(c api.Case, known int) []int {
	var l []api.Plaint
	for _, p := range retoldOrder(c, known) {
		l = append(l, p)
		if !canPledge(l, c.Sureties, nil) {
			break
		}
	}
	slices.SortFunc(l, func(p, q api.Plaint) int { return q.Id - p.Id })
	for i := 0; i < len(l); {
		if less := slices.Delete(slices.Clone(l), i, i+1); !canPledge(less, c.Sureties, nil) {
			l = less
		} else {
			i++
		}
	}
	return plaintIds(l)
}
