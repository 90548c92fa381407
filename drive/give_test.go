package drive_test

import (
	"slices"
	"testing"

	"pinfold/api"
	"pinfold/drive"
)

// P3.1: Owners has all that are possible, rising, whether they have a stock or not.
func TestOwners(t *testing.T) {
	d := example()
	for _, c := range []struct {
		d    api.Drive
		want []int
	}{
		{d, []int{5, 6, 7}},
		{api.Drive{Beasts: d.Beasts}, []int{5, 6, 7}},
		{api.Drive{Stocks: d.Stocks}, nil},
		{api.Drive{}, nil},
		{fullDrive(), []int{1, 2, 3, 44, 45, 97, 98, 99}},
		{api.Drive{Beasts: []api.Counted{counted(1, 1, 99), counted(2, 2, 1, 50), counted(3, 1, 50)}}, []int{1, 50, 99}},
	} {
		got, e := drive.Owners(c.d)
		want(t, "Owners", got, e, c.want, api.OK)
	}
}

// P3.1 and P3.4: a drive is sound if there is a list, and exactly if no beasts are a crowd; Give or Crowd shows which.
func TestSound(t *testing.T) {
	x := newRandom()
	sound := 0
	for range 2000 {
		d := randomDrive(x)
		is := len(lists(d)) > 0
		got, e := drive.Sound(d)
		want(t, "Sound", got, e, is, api.OK)
		given, givenE := drive.Give(d)
		crowd, crowdE := drive.Crowd(d)
		if is {
			sound++
			wantErrno(t, "Give", givenE, api.OK)
			wantErrno(t, "CheckGiven", drive.CheckGiven(d, given), api.OK)
			if !isGiven(d, given) {
				t.Error(d, given)
			}
			want(t, "Crowd", crowd, crowdE, nil, api.ErrNone)
			checkNoCrowd(t, d)
		} else {
			want(t, "Give", given, givenE, nil, api.ErrFalse)
			wantErrno(t, "Crowd", crowdE, api.OK)
			wantErrno(t, "CheckCrowd", drive.CheckCrowd(d, crowd), api.OK)
			if !isCrowd(d, crowd) {
				t.Error(d, crowd)
			}
		}
	}
	if sound < 500 || sound > 1500 {
		t.Error("sound drives are", sound)
	}
}

func checkNoCrowd(t *testing.T, d api.Drive) {
	t.Helper()
	for _, l := range subsets(d) {
		wantErrno(t, "CheckCrowd of a sound drive", drive.CheckCrowd(d, l), api.ErrCrowd)
	}
}

// isCrowd is what the chapter says of a rising list of beasts of the drive. (No owner has the number 0.)
func isCrowd(d api.Drive, l []int) bool {
	for sort := 1; sort <= api.MaxSort; sort++ {
		if ofOneSort(d, l, sort) && shown(d, l, 0, sort) > 0 {
			return true
		}
	}
	return false
}

// P3.1: CheckCrowd accepts just the crowds.
func TestCheckCrowd(t *testing.T) {
	x := newRandom()
	crowds := 0
	for range 500 {
		d := randomDrive(x)
		for _, l := range subsets(d) {
			wanted := api.ErrCrowd
			if isCrowd(d, l) {
				wanted = api.OK
				crowds++
			}
			wantErrno(t, one(d, 0)+one(l, 0), drive.CheckCrowd(d, l), wanted)
		}
	}
	if crowds < 500 {
		t.Error("few crowds", crowds)
	}
}

// P3.1: a crowd is a rising list of beasts of the drive, all of one sort; no beasts are none.
func TestCrowdsOfTheWrongForm(t *testing.T) {
	d := api.Drive{Beasts: []api.Counted{counted(1, 1, 5), counted(2, 1, 6), counted(3, 2, 5), counted(9999, 1, 5)}}
	for _, l := range [][]int{{1}, {2}, {3}, {9999}, {1, 2}, {1, 2, 9999}} {
		wantErrno(t, one(l, 0), drive.CheckCrowd(d, l), api.OK)
	}
	for _, l := range [][]int{nil, {}, {2, 1}, {1, 1}, {1, 2, 2}, {1, 3}, {1, 2, 3}, {4}, {1, 4}, {0, 1}, {-1}, {9999, 10000}, {1, 1 << 62}, make([]int, 100000)} {
		wantErrno(t, one(l, 0), drive.CheckCrowd(d, l), api.ErrCrowd)
	}
}

// P3.1: CheckGiven accepts just the lists by which owners are given.
func TestCheckGiven(t *testing.T) {
	x := newRandom()
	accepted := 0
	for range 1000 {
		d := randomDrive(x)
		all := lists(d)
		accepted += len(all)
		for _, l := range all {
			wantErrno(t, "CheckGiven", drive.CheckGiven(d, l), api.OK)
			other := slices.Clone(l)
			if len(other) > 0 {
				other[x.IntN(len(other))] = x.IntN(someOwners + 2)
			}
			wanted := api.ErrGiven
			if isGiven(d, other) {
				wanted = api.OK
			}
			wantErrno(t, one(d, 0)+one(other, 0), drive.CheckGiven(d, other), wanted)
		}
	}
	if accepted < 1000 {
		t.Error("few lists", accepted)
	}
	d := example()
	good := []int{5, 6, 7, 7}
	wantErrno(t, "good", drive.CheckGiven(d, good), api.OK)
	for _, l := range [][]int{nil, {}, {5, 6, 7}, {5, 6, 7, 7, 7}, {6, 6, 7, 7}, {5, 6, 6, 7}, {5, 5, 5, 7}, {0, 6, 7, 7}, {5, 6, 7, 1 << 62}, {-5, 6, 7, 7}} {
		wantErrno(t, one(l, 0), drive.CheckGiven(d, l), api.ErrGiven)
	}
	for _, l := range [][]int{nil, {}} {
		wantErrno(t, "no beasts", drive.CheckGiven(api.Drive{}, l), api.OK)
	}
	d.Stocks = slices.Delete(d.Stocks, 2, 3)
	wantErrno(t, "no stock of the sort 1", drive.CheckGiven(d, good), api.ErrGiven)
}

// P3.4: beasts of all sorts, as many as there may be: all have owners, and of each sort there may be a crowd.
func TestAllSorts(t *testing.T) {
	d := fullDrive()
	given, e := drive.Give(d)
	wantErrno(t, "Give", e, api.OK)
	wantErrno(t, "CheckGiven", drive.CheckGiven(d, given), api.OK)
	checkAttain(t, d, 1, 1, true, 5)
	checkAttain(t, d, 1, api.MaxSort, false, 0)
	for sort := 1; sort <= api.MaxSort; sort++ {
		less := cloneDrive(d)
		less.Stocks = slices.DeleteFunc(less.Stocks, func(s api.Stock) bool { return s.Sort == sort })
		crowd, e := drive.Crowd(less)
		wantErrno(t, "Crowd", e, api.OK)
		wantErrno(t, "CheckCrowd", drive.CheckCrowd(less, crowd), api.OK)
	}
}

// P3.4: beasts step aside one for another, as far as there are owners: 33 beasts of two owners each, in a row, and one that comes last.
func TestLongWay(t *testing.T) {
	var d api.Drive
	for i := range 33 {
		d.Beasts = append(d.Beasts, counted(1+i, 1, 1+i, 2+i))
		d.Stocks = append(d.Stocks, api.Stock{Owner: 1 + i, Sort: 1, Most: 1})
	}
	d.Beasts = append(d.Beasts, counted(50, 1, 1))
	crowd, e := drive.Crowd(d)
	wantErrno(t, "Crowd", e, api.OK)
	wantErrno(t, "CheckCrowd", drive.CheckCrowd(d, crowd), api.OK)
	if len(crowd) != 34 {
		t.Error(crowd)
	}
	d.Stocks = append(d.Stocks, api.Stock{Owner: 34, Sort: 1, Most: 1})
	wanted := []int{}
	for i := range 33 {
		wanted = append(wanted, 2+i)
	}
	got, e := drive.Give(d)
	want(t, "Give", got, e, append(wanted, 1), api.OK)
}
