package drive

import (
	"cmp"

	"pinfold/api"
)

// CheckCounted reports whether a beast of a drive is valid.
func CheckCounted(x api.Counted) api.Errno {
	ok := within(x.Source, 1, api.MaxSource) && within(x.Beast, 1, api.MaxBeast) && within(x.Sort, 1, api.MaxSort)
	return errorUnless(ok && len(x.Owners) > 0 && validList(x.Owners, api.MaxWhose, checkOwner, cmp.Compare), api.ErrCounted)
}

// CheckStock reports whether a stock is valid.
func CheckStock(s api.Stock) api.Errno {
	ok := within(s.Owner, 1, api.MaxOwner) && within(s.Sort, 1, api.MaxSort) && within(s.Most, 0, api.MaxMost)
	return errorUnless(ok, api.ErrStock)
}

// CheckRates reports whether rates are valid.
func CheckRates(r api.Rates) api.Errno {
	for _, n := range r {
		if !within(n, 0, api.MaxRate) {
			return api.ErrRates
		}
	}
	return errorUnless(r[0] == 0, api.ErrRates)
}

// Check reports whether a drive is valid.
func Check(d api.Drive) api.Errno {
	ok := validList(d.Beasts, api.MaxCounted, CheckCounted, compareBeasts) &&
		validList(d.Stocks, api.MaxStocks, CheckStock, compareStocks)
	return errorUnless(ok, api.ErrDrive)
}

func compareBeasts(a, b api.Counted) int { return cmp.Compare(a.Beast, b.Beast) }

func compareStocks(a, b api.Stock) int {
	return cmp.Or(cmp.Compare(a.Owner, b.Owner), cmp.Compare(a.Sort, b.Sort))
}

// validList reports whether a list has at most so many elements, which are valid, and strictly increasing.
func validList[T any](l []T, most int, check func(x T) api.Errno, compare func(a, b T) int) bool {
	if len(l) > most {
		return false
	}
	for i, x := range l {
		if check(x) != api.OK || i > 0 && compare(l[i-1], x) >= 0 {
			return false
		}
	}
	return true
}

// checkOwner, checkSort, checkBeast, checkRight and checkHas check the arguments beside a drive.
func checkOwner(owner int) api.Errno {
	return errorUnless(within(owner, 1, api.MaxOwner), api.ErrArg)
}

func checkSort(sort int) api.Errno {
	return errorUnless(within(sort, 1, api.MaxSort), api.ErrArg)
}

func checkBeast(beast int) api.Errno {
	return errorUnless(within(beast, 1, api.MaxBeast), api.ErrArg)
}

func checkRight(right int) api.Errno {
	return errorUnless(within(right, 0, api.MaxRight), api.ErrArg)
}

func checkHas(d api.Drive, beast int) api.Errno {
	return errorUnless(find(d.Beasts, beast) >= 0, api.ErrNone)
}

// askSound returns the first of the errors, and behind them ErrFalse if the drive is not sound.
func askSound(d api.Drive, errors ...api.Errno) api.Errno {
	// A drive with an error may be of any size: it is not searched.
	if e := cmp.Or(errors...); e != api.OK {
		return e
	}
	return errorUnless(sound(d), api.ErrFalse)
}

func within(n, lo, hi int) bool { return lo <= n && n <= hi }

func errorUnless(ok bool, e api.Errno) api.Errno {
	if ok {
		return api.OK
	}
	return e
}
