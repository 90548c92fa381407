package march

import "pinfold/api"

// CheckEntry reports whether an entry is valid.
func CheckEntry(x api.Entry) api.Errno {
	named := x.Other == 0 && x.No == 0
	if isOfRide(x.Kind) {
		named = validManor(x.Other) && validNo(x.No)
	}
	return errorUnless(within(x.Kind, api.EnPound, api.EnRefuse) && validBeast(x.Beast) && named, api.ErrArg)
}

// isOfRide reports whether the entries of a kind name a ride.
func isOfRide(kind int) bool { return within(kind, api.EnSend, api.EnRefuse) }

// Check reports whether a pound is valid.
func Check(p api.Pound) api.Errno {
	_, e := stand(p)
	return e
}

// CheckRider reports whether a rider is valid.
func CheckRider(r api.Rider) api.Errno {
	way := validManor(r.From) && validManor(r.To) && r.From != r.To
	return errorUnless(within(r.Kind, api.RdOffer, api.RdRefused) && way && validBeast(r.Beast) && validNo(r.No), api.ErrRider)
}

// checkOther checks a manor that must be another one.
func checkOther(me, manor int) api.Errno {
	return errorUnless(validManor(manor) && manor != me, api.ErrManor)
}

func checkBeast(beast int) api.Errno { return errorUnless(validBeast(beast), api.ErrArg) }

func validManor(manor int) bool { return within(manor, 0, api.MaxManors-1) }

func validBeast(beast int) bool { return within(beast, 1, api.MaxBeast) }

func validNo(no int) bool { return within(no, 1, api.MaxJournal) }

func within(n, lo, hi int) bool { return lo <= n && n <= hi }

func errorUnless(ok bool, e api.Errno) api.Errno {
	if ok {
		return api.OK
	}
	return e
}
