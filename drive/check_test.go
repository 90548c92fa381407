package drive_test

import (
	"slices"
	"testing"

	"pinfold/api"
	"pinfold/drive"
)

// P3.1: beasts of a drive, at their limits and one beyond them.
func TestCheckCounted(t *testing.T) {
	eight := []int{1, 2, 3, 4, 5, 6, 7, 99}
	for _, c := range []struct {
		x    api.Counted
		want api.Errno
	}{
		{api.Counted{Source: 1, Beast: 1, Sort: 1, Owners: []int{1}}, api.OK},
		{api.Counted{Source: api.MaxSource, Beast: api.MaxBeast, Sort: api.MaxSort, Owners: eight}, api.OK},
		{api.Counted{Source: 0, Beast: 1, Sort: 1, Owners: eight}, api.ErrCounted},
		{api.Counted{Source: api.MaxSource + 1, Beast: 1, Sort: 1, Owners: eight}, api.ErrCounted},
		{api.Counted{Source: 1, Beast: 0, Sort: 1, Owners: eight}, api.ErrCounted},
		{api.Counted{Source: 1, Beast: api.MaxBeast + 1, Sort: 1, Owners: eight}, api.ErrCounted},
		{api.Counted{Source: 1, Beast: 1, Sort: 0, Owners: eight}, api.ErrCounted},
		{api.Counted{Source: 1, Beast: 1, Sort: api.MaxSort + 1, Owners: eight}, api.ErrCounted},
		{counted(1, 1), api.ErrCounted},
		{api.Counted{Source: 1, Beast: 1, Sort: 1, Owners: []int{}}, api.ErrCounted},
		{counted(1, 1, 0), api.ErrCounted},
		{counted(1, 1, 99), api.OK},
		{counted(1, 1, 100), api.ErrCounted},
		{counted(1, 1, -1, 1), api.ErrCounted},
		{counted(1, 1, 1, 100), api.ErrCounted},
		{counted(1, 1, 5, 5), api.ErrCounted},
		{counted(1, 1, 1, 3, 2), api.ErrCounted},
		{counted(1, 1, 1, 2, 3, 4, 5, 6, 7, 8, 9), api.ErrCounted},
		{api.Counted{Source: -1 << 63, Beast: 1 << 62, Sort: -1, Owners: make([]int, 100000)}, api.ErrCounted},
		{api.Counted{}, api.ErrCounted},
	} {
		wantErrno(t, one(c.x, 0), drive.CheckCounted(c.x), c.want)
	}
}

// P3.1: stocks, at their limits and one beyond them.
func TestCheckStock(t *testing.T) {
	for _, c := range []struct {
		s    api.Stock
		want api.Errno
	}{
		{api.Stock{Owner: 1, Sort: 1}, api.OK},
		{api.Stock{Owner: 99, Sort: 9, Most: api.MaxMost}, api.OK},
		{api.Stock{Owner: 0, Sort: 1}, api.ErrStock},
		{api.Stock{Owner: 100, Sort: 1}, api.ErrStock},
		{api.Stock{Owner: 1, Sort: 0}, api.ErrStock},
		{api.Stock{Owner: 1, Sort: 10}, api.ErrStock},
		{api.Stock{Owner: 1, Sort: 1, Most: -1}, api.ErrStock},
		{api.Stock{Owner: 1, Sort: 1, Most: api.MaxMost + 1}, api.ErrStock},
		{api.Stock{}, api.ErrStock},
	} {
		wantErrno(t, one(c.s, 0), drive.CheckStock(c.s), c.want)
	}
}

// badRates are rates that are not valid.
func badRates() []api.Rates {
	return []api.Rates{{1}, {-1}, {1: -1}, {9: -1}, {1: api.MaxRate + 1}, {9: api.MaxRate + 1}, {5: 1 << 62}}
}

// P3.1: rates, at their limits and one beyond them.
func TestCheckRates(t *testing.T) {
	for _, r := range []api.Rates{{}, {1: api.MaxRate}, {9: api.MaxRate}, {1: 1, 5: 60}} {
		wantErrno(t, one(r, 0), drive.CheckRates(r), api.OK)
	}
	for _, r := range badRates() {
		wantErrno(t, one(r, 0), drive.CheckRates(r), api.ErrRates)
	}
}

// badDrives are drives that are not valid, one for each way in which they may not be.
func badDrives() []api.Drive {
	more := func(change func(d *api.Drive)) api.Drive {
		d := fullDrive()
		change(&d)
		return d
	}
	return []api.Drive{
		more(func(d *api.Drive) { d.Beasts = slices.Insert(d.Beasts, 0, counted(1, 1, 1)) }),
		more(func(d *api.Drive) { d.Stocks = append(d.Stocks, api.Stock{Owner: 99, Sort: 9}) }),
		more(func(d *api.Drive) { d.Beasts[0].Source = 0 }),
		more(func(d *api.Drive) { d.Beasts[39].Sort = 10 }),
		more(func(d *api.Drive) { d.Beasts[20].Owners = nil }),
		more(func(d *api.Drive) { d.Beasts[0].Beast = 0 }),
		more(func(d *api.Drive) { d.Beasts[39].Beast = api.MaxBeast + 1 }),
		more(func(d *api.Drive) { d.Beasts[1].Beast = d.Beasts[0].Beast }),
		more(func(d *api.Drive) { d.Beasts[38], d.Beasts[39] = d.Beasts[39], d.Beasts[38] }),
		more(func(d *api.Drive) { d.Stocks[0].Most = -1 }),
		more(func(d *api.Drive) { d.Stocks[399].Owner = 100 }),
		more(func(d *api.Drive) { d.Stocks[0].Sort = 0 }),
		more(func(d *api.Drive) { d.Stocks[1].Sort = d.Stocks[0].Sort }),
		more(func(d *api.Drive) { d.Stocks[0], d.Stocks[1] = d.Stocks[1], d.Stocks[0] }),
		more(func(d *api.Drive) { d.Stocks[8], d.Stocks[9] = d.Stocks[9], d.Stocks[8] }),
	}
}

// P3.1: drives, at their limits and one beyond them, in order and out of it.
func TestCheck(t *testing.T) {
	for _, d := range []api.Drive{{}, {Beasts: []api.Counted{}, Stocks: []api.Stock{}}, example(), fullDrive()} {
		wantErrno(t, one(d, 0), drive.Check(d), api.OK)
	}
	for i, d := range badDrives() {
		wantErrno(t, one(i, 0), drive.Check(d), api.ErrDrive)
	}
}
