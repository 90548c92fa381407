package drive_test

import (
	"testing"

	"pinfold/api"
	"pinfold/drive"
)

// P3.3: what Prove returns shows the lower end, and no beasts show more.
func TestProve(t *testing.T) {
	x := newRandom()
	above := 0
	for range 300 {
		d, all := soundDrive(x)
		sets := subsets(d)
		eachShare(func(owner, sort int) {
			n := counts(d, all, owner, sort).Lo
			l, e := drive.Prove(d, owner, sort)
			if e != api.OK || !ofOneSort(d, l, sort) || shown(d, l, owner, sort) < n {
				t.Error("Prove", d, owner, sort, l, e)
			}
			wantErrno(t, "CheckProof", drive.CheckProof(d, owner, sort, n, l), api.OK)
			if n > 0 {
				above++
			} else if len(l) > 0 {
				t.Error("nothing is to be shown", d, owner, sort, l)
			}
			for _, l := range sets {
				wanted := api.ErrShown
				if !ofOneSort(d, l, sort) {
					wanted = api.ErrCrowd
				}
				wantErrno(t, "more", drive.CheckProof(d, owner, sort, n+1, l), wanted)
			}
		})
	}
	if above < 200 {
		t.Error("little is shown", above)
	}
}

// P3.1: CheckProof counts as the chapter says, also where a drive is not sound.
func TestCheckProof(t *testing.T) {
	x := newRandom()
	negative := 0
	for range 300 {
		d := randomDrive(x)
		sets := subsets(d)
		eachShare(func(owner, sort int) {
			for _, l := range sets {
				if !ofOneSort(d, l, sort) {
					wantErrno(t, "another sort", drive.CheckProof(d, owner, sort, -5000, l), api.ErrCrowd)
					continue
				}
				n := shown(d, l, owner, sort)
				wantErrno(t, "so many", drive.CheckProof(d, owner, sort, n, l), api.OK)
				wantErrno(t, "fewer", drive.CheckProof(d, owner, sort, n-1, l), api.OK)
				wantErrno(t, "one more", drive.CheckProof(d, owner, sort, n+1, l), api.ErrShown)
				if n < 0 {
					negative++
				}
			}
		})
	}
	if negative < 300 {
		t.Error("few show less than nothing", negative)
	}
}

// P3.1: a proof is a rising list of beasts of the drive, all of the sort; any number may be asked for.
func TestProofsOfTheWrongForm(t *testing.T) {
	d := example()
	for _, l := range [][]int{{2, 1}, {1, 1}, {1, 2, 4}, {4}, {5}, {0}, {-1, 1}, {1, 1 << 62}, {3, 1, 2}, make([]int, 100000)} {
		wantErrno(t, one(l, 0), drive.CheckProof(d, 5, 3, -1<<63, l), api.ErrCrowd)
		wantErrno(t, one(l, 0), drive.CheckProof(d, 5, 3, 1<<62, l), api.ErrCrowd)
	}
	for _, l := range [][]int{nil, {}} {
		wantErrno(t, "0", drive.CheckProof(d, 5, 3, 0, l), api.OK)
		wantErrno(t, "1", drive.CheckProof(d, 5, 3, 1, l), api.ErrShown)
		wantErrno(t, "no beast of the sort", drive.CheckProof(d, 5, 9, 0, l), api.OK)
		wantErrno(t, "the least number", drive.CheckProof(d, 5, 3, -1<<63, l), api.OK)
		wantErrno(t, "the greatest number", drive.CheckProof(d, 5, 3, 1<<63-1, l), api.ErrShown)
	}
}
