package herd

import (
	"pinfold/api"
	"pinfold/mark"
)

// perManor is how many items a manor has.
const perManor = api.MaxNo + 1

// Source is the source of an item.
func Source(x api.Item) int {
	if !validItem(x) {
		return 0
	}
	return perManor*x.Manor + x.No + 1
}

// ItemOf returns the item with a source.
func ItemOf(source int) (api.Item, api.Errno) {
	if !within(source, 1, perManor*api.MaxManors) {
		return api.Item{}, api.ErrSource
	}
	n := source - 1
	return api.Item{Manor: n / perManor, No: n % perManor}, api.OK
}

// CheckEvent reports whether an event is valid.
func CheckEvent(x api.Event) api.Errno {
	// An event that has more than its kind names is not the same without it.
	bare := x == withNumbers(x, numbersOf(x))
	return errorUnless(bare && validItem(x.At) && validDay(x.Known) && validByKind(x), api.ErrEvent)
}

// Check reports whether a list of events is valid.
func Check(l []api.Event) api.Errno {
	if len(l) > api.MaxEvents {
		return api.ErrEvents
	}
	for i, x := range l {
		if CheckEvent(x) != api.OK || i > 0 && compareEvents(l[i-1], x) >= 0 {
			return api.ErrEvents
		}
	}
	return api.OK
}

// validByKind reports whether all is valid that is not the same for all kinds of events.
func validByKind(x api.Event) bool {
	if x.Kind == api.EvWithdraw {
		return x.Day == 0 && validItem(x.Of) && x.Of.Manor == x.At.Manor && x.Of.No < x.At.No
	}
	return x.Of == api.Item{} && validDay(x.Day) && validBeast(x.Beast) && validOfBeast(x)
}

// validOfBeast reports whether an event says of its beast what its kind may.
func validOfBeast(x api.Event) bool {
	switch x.Kind {
	case api.EvBorn:
		dam := x.Dam == 0 || validBeast(x.Dam) && x.Dam != x.Beast
		return validSort(x.Sort) && validOwner(x.Owner) && dam
	case api.EvStray:
		return validSort(x.Sort)
	case api.EvSold, api.EvFound:
		return validOwner(x.Owner)
	case api.EvSeen:
		return mark.CheckReading(x.Seen) == api.OK
	case api.EvDied:
		return true
	}
	return false
}

func validItem(x api.Item) bool {
	return within(x.Manor, 0, api.MaxManors-1) && within(x.No, 0, api.MaxNo)
}

func validDay(day int) bool { return within(day, 0, api.MaxDay) }

func validBeast(no int) bool { return within(no, 1, api.MaxBeast) }

func validOwner(owner int) bool { return within(owner, 1, api.MaxOwner) }

func validSort(sort int) bool { return within(sort, 1, api.MaxSort) }

func within(n, lo, hi int) bool { return lo <= n && n <= hi }

// checkBeast, checkOwner, checkSort and checkDays check the arguments beside a list of events.
func checkBeast(no int) api.Errno { return errorUnless(validBeast(no), api.ErrArg) }

func checkOwner(owner int) api.Errno { return errorUnless(validOwner(owner), api.ErrArg) }

func checkSort(sort int) api.Errno { return errorUnless(validSort(sort), api.ErrArg) }

func checkDays(days ...int) api.Errno {
	for _, day := range days {
		if !validDay(day) {
			return api.ErrDay
		}
	}
	return api.OK
}

func errorUnless(ok bool, e api.Errno) api.Errno {
	if ok {
		return api.OK
	}
	return e
}
