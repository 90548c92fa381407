package plaint

import (
	"iter"
	"slices"

	"pinfold/api"
)

// need is what must be pledged for a plaint.
func need(p api.Plaint) int { return p.Claim.Hi }

// means are what each surety is good for.
func (x docket) means() []int {
	var l []int
	for _, s := range x.Sureties {
		l = append(l, s.Worth.Lo)
	}
	return l
}

func sum(numbers ...int) int {
	n := 0
	for _, x := range numbers {
		n += x
	}
	return n
}

// chosen are the numbers of a list whose indices are in a set.
func chosen(l []int, s set) []int {
	var numbers []int
	for i := range s.members() {
		numbers = append(numbers, l[i])
	}
	return numbers
}

// backers are the sureties that stand for one or more plaints of a set.
func (x docket) backers(s set) set {
	var all set
	for i := range s.members() {
		all |= x.stand[i]
	}
	return all
}

// slack is by how much more is left of the sureties of plaints than these need together: if less than 0, they are short.
func (x docket) slack(s set, left []int) int {
	n := sum(chosen(left, x.backers(s))...)
	for i := range s.members() {
		n -= need(x.Plaints[i])
	}
	return n
}

// good reports whether there is a pledge of plaints: just if no set of them is short.
func (x docket) good(s set) bool {
	means := x.means()
	for part := range s.subsets() {
		if x.slack(part, means) < 0 {
			return false
		}
	}
	return true
}

// rows yields the indices of the plaints that are allowed, with the rows of their pledge.
func (x docket) rows() iter.Seq2[int, []int] {
	return func(yield func(i int, row []int) bool) {
		left, later := x.means(), x.allowed
		for i := range x.allowed.members() {
			later = later.without(i)
			row := x.row(i, later, left)
			for j, n := range row {
				left[j] -= n
			}
			if !yield(i, row) {
				return
			}
		}
	}
}

// row is that of a plaint in the pledge: of what is left each surety pledges as much as the later plaints let it.
func (x docket) row(i int, later set, left []int) []int {
	row, left, rest := make([]int, len(left)), slices.Clone(left), need(x.Plaints[i])
	for j := range x.stand[i].members() {
		row[j] = min(rest, x.unbound(j, later, left))
		rest -= row[j]
		left[j] -= row[j]
	}
	return row
}

// unbound is how much of what is left of a surety can be taken from it, so that later plaints are still good.
func (x docket) unbound(j int, later set, left []int) int {
	most := left[j]
	for part := range later.subsets() {
		if x.backers(part).has(j) {
			most = min(most, x.slack(part, left))
		}
	}
	return most
}

// Pledge says how much each surety stands for each plaint that is allowed, as known on a day.
func Pledge(c api.Case, known int) (api.Pledge, api.Errno) {
	x, e := lookAt(c, known)
	var p api.Pledge
	for _, row := range x.rows() {
		p.Rows = append(p.Rows, row)
	}
	return p, e
}

// CheckPledge reports whether a pledge is one of the plaints that are allowed, as known on a day.
func CheckPledge(c api.Case, known int, p api.Pledge) api.Errno {
	x, e := lookAt(c, known)
	if e != api.OK {
		return e
	}
	return errorUnless(x.isPledge(p.Rows), api.ErrPledge)
}

func (x docket) isPledge(rows [][]int) bool {
	left := x.means()
	for i := range x.allowed.members() {
		if len(rows) == 0 || !x.isRow(i, rows[0]) {
			return false
		}
		for j, n := range rows[0] {
			left[j] -= n
		}
		rows = rows[1:]
	}
	return len(rows) == 0 && !slices.ContainsFunc(left, func(n int) bool { return n < 0 })
}

// isRow reports whether a plaint's own sureties pledge, all together, what it needs.
func (x docket) isRow(i int, row []int) bool {
	if len(row) != len(x.Sureties) {
		return false
	}
	all := need(x.Plaints[i])
	for j, n := range row {
		// A number beyond the need is refused by itself: a sum of such ones might not fit.
		if !within(n, 0, all) || n > 0 && !x.stand[i].has(j) {
			return false
		}
	}
	return sum(row...) == all
}

// Short returns plaints that are short, and of which none can be left out, if one is refused, as known on a day.
func Short(c api.Case, known int) ([]int, api.Errno) {
	x, e := lookAt(c, known)
	if e != api.OK {
		return nil, e
	}
	if x.refused == 0 {
		return nil, api.ErrGood
	}
	s := x.doubted
	for i := range slices.Backward(x.Plaints) {
		if less := s.without(i); !x.good(less) {
			s = less
		}
	}
	return x.ids(s), api.OK
}

// CheckShort reports whether plaints are short, and none of them can be left out, as known on a day.
func CheckShort(c api.Case, known int, set []int) api.Errno {
	x, e := lookAt(c, known)
	if e != api.OK {
		return e
	}
	s, ok := x.setOf(set)
	return errorUnless(ok && x.isShort(s), api.ErrSet)
}

// setOf is the set of plaints that are entered, by their rising Ids, and whether these are such ones.
func (x docket) setOf(ids []int) (set, bool) {
	var s set
	for k, id := range ids {
		i, there := x.index(id)
		if !there || k > 0 && ids[k-1] >= id {
			return 0, false
		}
		s = s.with(i)
	}
	return s, true
}

// isShort reports whether plaints are short, and good without any one of them; no plaints are not short.
func (x docket) isShort(s set) bool {
	for i := range s.members() {
		if !x.good(s.without(i)) {
			return false
		}
	}
	return x.slack(s, x.means()) < 0
}

// Spare is by how much more a plaint could need, so that the plaints that are allowed were still good, as known on a day.
func Spare(c api.Case, id, known int) (int, api.Errno) {
	x, i, e := lookAtOne(c, id, known)
	if e != api.OK {
		return 0, e
	}
	if x.refused.has(i) {
		return 0, api.ErrRefused
	}
	means := x.means()
	least := sum(means...)
	for part := range x.allowed.subsets() {
		if part.has(i) {
			least = min(least, x.slack(part, means))
		}
	}
	return least, api.OK
}
