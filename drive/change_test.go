package drive_test

import (
	"slices"
	"testing"

	"pinfold/api"
	"pinfold/drive"
)

// P3.1: With puts a beast at its place.
func TestWith(t *testing.T) {
	d := api.Drive{Beasts: []api.Counted{counted(5, 3, 1, 2), counted(9, 3, 2)}, Stocks: example().Stocks}
	for i, beast := range []int{1, 4, 6, 8, 10, api.MaxBeast} {
		x := counted(beast, 9, 5, 99)
		wanted := cloneDrive(d)
		wanted.Beasts = slices.Insert(wanted.Beasts, i/2, x)
		got, e := drive.With(d, x)
		want(t, "With", got, e, wanted, api.OK)
	}
	got, e := drive.With(api.Drive{}, counted(7, 1, 1))
	want(t, "the first one", got, e, api.Drive{Beasts: []api.Counted{counted(7, 1, 1)}}, api.OK)
	full := fullDrive()
	fewer := cloneDrive(full)
	fewer.Beasts = slices.Delete(fewer.Beasts, 12, 13)
	got, e = drive.With(fewer, full.Beasts[12])
	want(t, "the last one that fits", got, e, full, api.OK)
}

// P3.1: the errors of With in their order.
func TestErrorsOfWith(t *testing.T) {
	full := fullDrive()
	there := full.Beasts[7]
	there.Sort, there.Owners = 1, []int{1}
	bad := there
	bad.Owners = []int{2, 1}
	for _, c := range []struct {
		d    api.Drive
		x    api.Counted
		want api.Errno
	}{
		{badDrives()[0], bad, api.ErrDrive},
		{badDrives()[7], counted(1, 1, 1), api.ErrDrive},
		{full, bad, api.ErrCounted},
		{full, api.Counted{}, api.ErrCounted},
		{full, there, api.ErrArg},
		{full, full.Beasts[39], api.ErrArg},
		{full, counted(1, 1, 1), api.ErrLong},
		{example(), counted(4, 2, 1), api.ErrArg},
		{example(), counted(5, 0, 1), api.ErrCounted},
	} {
		got, e := drive.With(c.d, c.x)
		want(t, "With", got, e, api.Drive{}, c.want)
	}
}

// P3.1: Without leaves out just the beast.
func TestWithout(t *testing.T) {
	d := example()
	for i, x := range d.Beasts {
		wanted := cloneDrive(d)
		wanted.Beasts = slices.Delete(wanted.Beasts, i, i+1)
		got, e := drive.Without(d, x.Beast)
		want(t, "Without", got, e, wanted, api.OK)
		got, e = drive.With(got, x)
		want(t, "and With", got, e, d, api.OK)
	}
	got, e := drive.Without(api.Drive{Beasts: []api.Counted{counted(7, 1, 1)}}, 7)
	want(t, "the last one", got, e, api.Drive{}, api.OK)
}

// P3.1: Narrow leaves a beast the owners that are in a list of any numbers.
func TestNarrow(t *testing.T) {
	d := example()
	d.Beasts[1].Owners = []int{2, 5, 6, 99}
	for _, c := range []struct {
		owners, want []int
	}{
		{[]int{5}, []int{5}},
		{[]int{99, 7, 2, 5, 6}, []int{2, 5, 6, 99}},
		{[]int{6, 6, -5, 0, 100, 1 << 62, 5}, []int{5, 6}},
		{slices.Repeat([]int{2, 99}, 500), []int{2, 99}},
	} {
		wanted := cloneDrive(d)
		wanted.Beasts[1].Owners = c.want
		got, e := drive.Narrow(d, 2, c.owners)
		want(t, "Narrow", got, e, wanted, api.OK)
	}
	for _, owners := range [][]int{nil, {}, {7}, {0, 1, 100, -2}} {
		got, e := drive.Narrow(d, 2, owners)
		want(t, "no owners", got, e, api.Drive{}, api.ErrArg)
	}
	got, e := drive.Narrow(api.Drive{Beasts: d.Beasts}, 4, []int{7})
	want(t, "a drive that is not sound", got, e, api.Drive{Beasts: d.Beasts}, api.OK)
}
