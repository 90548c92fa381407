package herd

import (
	"cmp"
	"slices"

	"pinfold/api"
)

func compareEvents(a, b api.Event) int { return compareItems(a.At, b.At) }

func compareItems(a, b api.Item) int {
	return cmp.Or(cmp.Compare(a.Manor, b.Manor), cmp.Compare(a.No, b.No))
}

// Add is a list with one more event.
func Add(l []api.Event, x api.Event) ([]api.Event, api.Errno) {
	if e := cmp.Or(Check(l), CheckEvent(x)); e != api.OK {
		return nil, e
	}
	return joined(l, []api.Event{x})
}

// Join returns the events of two lists.
func Join(a, b []api.Event) ([]api.Event, api.Errno) {
	if e := cmp.Or(Check(a), Check(b)); e != api.OK {
		return nil, e
	}
	return joined(a, b)
}

// joined is Join of what is valid.
func joined(a, b []api.Event) ([]api.Event, api.Errno) {
	l := slices.Concat(a, b)
	slices.SortFunc(l, compareEvents)
	l = slices.Compact(l)
	for i, x := range l {
		if i > 0 && l[i-1].At == x.At {
			return nil, api.ErrSame
		}
	}
	if len(l) > api.MaxEvents {
		return nil, api.ErrLong
	}
	return l, api.OK
}

// Without is a list without the event of an item.
func Without(l []api.Event, at api.Item) ([]api.Event, api.Errno) {
	if e := Check(l); e != api.OK {
		return nil, e
	}
	return less(l, at)
}

// less is Without of a valid list.
func less(l []api.Event, at api.Item) ([]api.Event, api.Errno) {
	i := slices.IndexFunc(l, func(x api.Event) bool { return x.At == at })
	if i < 0 {
		return nil, api.ErrNone
	}
	return slices.Concat(l[:i], l[i+1:]), api.OK
}

// Dates returns the days on which something becomes known.
func Dates(l []api.Event) ([]int, api.Errno) {
	if e := Check(l); e != api.OK {
		return nil, e
	}
	var days []int
	for _, x := range l {
		days = append(days, x.Known)
	}
	slices.Sort(days)
	return slices.Compact(days), api.OK
}
