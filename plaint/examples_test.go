package plaint_test

import (
	"fmt"
	"testing"

	"pinfold/api"
	"pinfold/plaint"
)

// P7.1: the rows of the chapter's examples on which plaints are allowed.
func TestExamplesOfAllowed(t *testing.T) {
	c := example()
	for known, wanted := range map[int][]int{3: {5}, 4: {5, 6}, 6: {5, 6}} {
		want(t, "Allowed", allowedOf(t, c, known), api.OK, wanted, api.OK)
	}
	want(t, "Refused", refusedOf(t, c, 6), api.OK, []int{9}, api.OK)
	want(t, "Pledge", pledgeOf(t, c, 3), api.OK, [][]int{{100, 20, 0}}, api.OK)
	want(t, "Pledge", pledgeOf(t, c, 4), api.OK, [][]int{{100, 20, 0}, {0, 40, 30}}, api.OK)
	l, e := plaint.Short(c, 6)
	want(t, "Short", l, e, []int{5, 6, 9}, api.OK)
	n, e := plaint.Spare(c, 5, 4)
	want(t, "Spare", n, e, 10, api.OK)
	for known, wanted := range map[int][]int{6: {5, 6}, 8: {6}} {
		l, e := plaint.Open(c, known)
		want(t, "Open", l, e, wanted, api.OK)
	}
	for known, wanted := range map[int][]int{6: {10, 11, 12}, 8: {11, 12}} {
		l, e := plaint.Free(c, known)
		want(t, "Free", l, e, wanted, api.OK)
	}
}

// P7.1: the rows of the chapter's examples on what is found and owed.
func TestExamplesOfOwed(t *testing.T) {
	c := example()
	for known, wanted := range map[int]int{8: 110, 12: 60} {
		n, e := plaint.Found(c, 5, known)
		want(t, "Found", n, e, wanted, api.OK)
	}
	for surety, wanted := range map[int]int{0: 20, 1: 90, 2: 0} {
		want(t, fmt.Sprint("Owed by ", surety), owedOf(t, c, 5, surety, 8), api.OK, wanted, api.OK)
	}
	want(t, "Levies", leviesOf(t, c, 12), api.OK, levies([][4]int{{8, 5, 0, 20}, {8, 5, 1, 90}, {12, 5, 0, 40}, {12, 5, 1, -90}}), api.OK)
	for _, m := range []struct {
		source, known int
		wanted        []int
	}{{31, 12, []int{5}}, {30, 12, nil}, {30, 8, []int{5}}} {
		l, e := plaint.Moved(c, m.source, m.known)
		want(t, fmt.Sprint("Moved of ", m.source, " on ", m.known), l, e, m.wanted, api.OK)
	}
}

// P7.1: the plaint of DOC.md's examples 9: its surety pays what its owner does not.
func TestExampleOfTheDocument(t *testing.T) {
	c := api.Case{Sureties: []api.Surety{{Id: 1, Worth: api.Range{Lo: 100, Hi: 100}}}}
	c, e := plaint.Plead(c, api.Plaint{Id: 5, Owner: 5, Beasts: []int{8}, Claim: api.Range{Lo: 0, Hi: 74}, Day: 16, Known: 16, Sureties: []int{1}})
	wantErrno(t, "Plead", e, api.OK)
	want(t, "Allowed", allowedOf(t, c, 16), api.OK, []int{5}, api.OK)
	c, e = plaint.Find(c, api.Finding{Source: 10, Plaint: 5, Day: 17, Known: 17, Amount: 74, Pays: 30})
	wantErrno(t, "Find", e, api.OK)
	want(t, "Owed", owedOf(t, c, 5, 1, 17), api.OK, 44, api.OK)
	want(t, "Levies", leviesOf(t, c, 17), api.OK, levies([][4]int{{17, 5, 0, 30}, {17, 5, 1, 44}}), api.OK)
}
