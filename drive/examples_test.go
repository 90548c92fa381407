package drive_test

import (
	"slices"
	"testing"

	"pinfold/api"
	"pinfold/drive"
)

// P3.1: the rows of the chapter's examples.
func TestExampleCounts(t *testing.T) {
	d := example()
	owners, e := drive.Owners(d)
	want(t, "Owners", owners, e, []int{5, 6, 7}, api.OK)
	sound, e := drive.Sound(d)
	want(t, "Sound", sound, e, true, api.OK)
	for _, c := range []struct {
		owner, sort int
		want        api.Range
	}{{5, 3, api.Range{Lo: 1, Hi: 2}}, {6, 3, api.Range{Lo: 0, Hi: 1}}, {7, 3, api.Range{Lo: 0, Hi: 1}}, {7, 1, api.Range{Lo: 1, Hi: 1}}} {
		got, e := drive.Count(d, c.owner, c.sort)
		want(t, "Count", got, e, c.want, api.OK)
	}
	for _, c := range []struct{ beast, owner, want int }{{4, 7, api.Yes}, {3, 6, api.Maybe}, {3, 5, api.No}} {
		got, e := drive.Whose(d, c.beast, c.owner)
		want(t, "Whose", got, e, c.want, api.OK)
	}
	r := api.Rates{1: 60, 3: 10}
	parts, e := drive.Parts(d, 7, r)
	want(t, "Parts", parts, e, api.Range{Lo: 60, Hi: 70}, api.OK)
	for _, c := range []struct{ right, want int }{{59, api.Yes}, {60, api.Maybe}, {70, api.No}} {
		got, e := drive.Over(d, 7, r, c.right)
		want(t, "Over", got, e, c.want, api.OK)
	}
}

func TestExampleProofs(t *testing.T) {
	d := example()
	l, e := drive.Prove(d, 5, 3)
	want(t, "Prove", l, e, []int{1, 2}, api.OK)
	wantErrno(t, "1", drive.CheckProof(d, 5, 3, 1, []int{1, 2}), api.OK)
	wantErrno(t, "2", drive.CheckProof(d, 5, 3, 2, []int{1, 2}), api.ErrShown)
	wantErrno(t, "3 less 1 and 1", drive.CheckProof(d, 5, 3, 1, []int{1, 2, 3}), api.OK)
}

func TestExampleNarrowed(t *testing.T) {
	d, e := drive.Narrow(example(), 3, []int{6})
	wantErrno(t, "Narrow", e, api.OK)
	for owner, n := range map[int]int{5: 2, 6: 1} {
		got, e := drive.Count(d, owner, 3)
		want(t, "Count", got, e, api.Range{Lo: n, Hi: n}, api.OK)
	}
	d.Stocks = slices.Delete(d.Stocks, 1, 2)
	l, e := drive.Crowd(d)
	wantErrno(t, "Crowd", e, api.OK)
	for _, crowd := range [][]int{l, {3}, {1, 2, 3}} {
		wantErrno(t, "CheckCrowd", drive.CheckCrowd(d, crowd), api.OK)
	}
	wantErrno(t, "CheckCrowd", drive.CheckCrowd(d, []int{1, 2}), api.ErrCrowd)
}

// P3.1: a beast that nobody may own, since none of its owners has one of its sort, is a crowd alone.
func TestBeastOfNobody(t *testing.T) {
	for _, stocks := range [][]api.Stock{nil, {{Owner: 5, Sort: 1, Most: 0}}, {{Owner: 5, Sort: 2, Most: 9}, {Owner: 7, Sort: 1, Most: 9}}} {
		d := api.Drive{Beasts: []api.Counted{counted(8, 1, 5, 6)}, Stocks: stocks}
		sound, e := drive.Sound(d)
		want(t, "Sound", sound, e, false, api.OK)
		l, e := drive.Crowd(d)
		want(t, "Crowd", l, e, []int{8}, api.OK)
		n, e := drive.Count(d, 5, 1)
		want(t, "Count", n, e, api.Range{}, api.ErrFalse)
		whose, e := drive.Whose(d, 8, 9)
		want(t, "Whose", whose, e, api.No, api.ErrFalse)
		wantErrno(t, "CheckProof", drive.CheckProof(d, 5, 1, 1, []int{8}), api.OK)
	}
}
