package plaint

import (
	"cmp"
	"slices"

	"pinfold/api"
)

// bill is what is owed by a finding: by the owner, and behind it by each surety, up to its number in the row of the pledge.
func bill(f api.Finding, row []int) []int {
	amounts, rest := []int{f.Pays}, f.Amount-f.Pays
	for _, most := range row {
		n := min(most, rest)
		amounts = append(amounts, n)
		rest -= n
	}
	return amounts
}

// bills has one for each plaint of the case: without a finding in force, and on a refused plaint, nothing is owed.
func (x docket) bills() [][]int {
	l := noBills(x.Case)
	for i, row := range x.rows() {
		f, _ := x.inForce(i)
		l[i] = bill(f, row)
	}
	return l
}

func noBills(c api.Case) [][]int {
	var l [][]int
	for range c.Plaints {
		l = append(l, make([]int, 1+len(c.Sureties)))
	}
	return l
}

// Levies returns what the court asks for, up to a day.
func Levies(c api.Case, known int) ([]api.Levy, api.Errno) {
	if e := checkKnown(c, known); e != api.OK {
		return nil, e
	}
	levies := make(chan api.Levy)
	go levy(c, known, levies)
	var l []api.Levy
	for x := range levies {
		l = append(l, x)
	}
	return l, api.OK
}

// levy sends the levies up to a day, of which there are some only on days on which something becomes known.
func levy(c api.Case, known int, levies chan<- api.Levy) {
	defer close(levies)
	before := noBills(c)
	for _, day := range dates(c) {
		if day > known {
			return
		}
		x := look(c, day)
		now := x.bills()
		x.sendChanges(before, now, levies)
		before = now
	}
}

// sendChanges sends the levies of a day, by which what was owed becomes what is owed now.
func (x docket) sendChanges(before, now [][]int, levies chan<- api.Levy) {
	for i, p := range x.Plaints {
		for k, amount := range now[i] {
			if more := amount - before[i][k]; more != 0 {
				levies <- api.Levy{Known: x.known, Plaint: p.Id, Surety: x.payer(k), Amount: more}
			}
		}
	}
}

// payer is who owes the number with an index in a bill: 0 is the owner, others are Ids of sureties.
func (x docket) payer(k int) int {
	if k == 0 {
		return 0
	}
	return x.Sureties[k-1].Id
}

// CheckLevies reports whether these are the levies up to a day.
func CheckLevies(c api.Case, known int, l []api.Levy) api.Errno {
	levies, e := Levies(c, known)
	return cmp.Or(e, errorUnless(slices.Equal(levies, l), api.ErrLevies))
}

// Owed is what a plaint's owner, or one of its sureties, owes, as known on a day.
func Owed(c api.Case, id, surety, known int) (int, api.Errno) {
	x, i, e := lookAtOne(c, id, known)
	if e != api.OK {
		return 0, e
	}
	amounts := x.bills()[i]
	if surety == 0 {
		return amounts[0], api.OK
	}
	j, there := place(x.Sureties, surety, idOfSurety)
	if !there || !x.stand[i].has(j) {
		return 0, api.ErrArg
	}
	return amounts[1+j], api.OK
}

// none is what was found where nothing was.
const none = -1

// found is the amount that Found tells of a plaint.
func (x docket) found(i int) int {
	f, ok := x.inForce(i)
	if !ok {
		return none
	}
	return f.Amount
}

// Moved returns the plaints of which something else would be told without a finding, as known on a day.
func Moved(c api.Case, source, known int) ([]int, api.Errno) {
	x, e := lookAt(c, known)
	if e != api.OK {
		return nil, e
	}
	rest, e := Without(c, source)
	if e != api.OK {
		return nil, e
	}
	y := look(rest, known)
	owed, less := x.bills(), y.bills()
	var moved set
	for i := range (x.allowed | x.refused).members() {
		// Whether a plaint is open is another one only where found is: findings do not change which ones are allowed.
		if x.found(i) != y.found(i) || !slices.Equal(owed[i], less[i]) {
			moved = moved.with(i)
		}
	}
	return x.ids(moved), api.OK
}
