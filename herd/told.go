package herd

import (
	"cmp"
	"slices"

	"pinfold/api"
	"pinfold/mark"
)

// bearers returns the owners whose mark a beast may bear by all that was read of it; the book is valid.
func (x life) bearers(b api.Marks) []int {
	// There is no error: a list of events has no more readings than may be taken together, and valid ones.
	l, _ := mark.Of(b, x.Seen)
	return l
}

// wrong reports whether a beast does not read as the mark that it bears.
func (x life) wrong(b api.Marks) bool {
	return x.Bearer != 0 && !slices.Contains(x.bearers(b), x.Bearer)
}

// Bearers returns the owners whose mark a beast may bear.
func Bearers(b api.Marks, l []api.Event, no, known int) ([]int, api.Errno) {
	if e := cmp.Or(mark.Check(b), Check(l), checkBeast(no), checkDays(known)); e != api.OK {
		return nil, e
	}
	x, e := allLives(l, known).find(no)
	if e != api.OK {
		return nil, e
	}
	return x.bearers(b), api.OK
}

// Wrong returns the beasts whose readings are not those of the mark that they bear.
func Wrong(b api.Marks, l []api.Event, known int) ([]int, api.Errno) {
	if e := cmp.Or(mark.Check(b), Check(l), checkDays(known)); e != api.OK {
		return nil, e
	}
	return allLives(l, known).those(func(x life) bool { return x.wrong(b) }), api.OK
}

// told is what is told of a beast, in a form that can be compared; the zero value is of one that is not there.
type told struct {
	no, sort, dam int
	owner, bearer int
	born, died    int
	found         bool
	bearers       [api.MaxOwner + 1]bool
}

// tell returns what is told of a beast.
func (s *lives) tell(b api.Marks, no int) told {
	x, e := s.find(no)
	if e != api.OK {
		return told{}
	}
	t := told{no: x.No, sort: x.Sort, dam: x.Dam, owner: x.Owner, bearer: x.Bearer, born: x.Born, died: x.Died, found: x.Found}
	for _, owner := range x.bearers(b) {
		t.bearers[owner] = true
	}
	return t
}

// toldApart returns the beasts, rising, of which the one tells something else than the other.
func toldApart(b api.Marks, one, other *lives) []int {
	l := slices.Concat(one.numbers(), other.numbers())
	slices.Sort(l)
	return slices.DeleteFunc(slices.Compact(l), func(no int) bool {
		return one.tell(b, no) == other.tell(b, no)
	})
}

// Moved returns the beasts of which something else would be told without the event of an item.
func Moved(b api.Marks, l []api.Event, at api.Item, known int) ([]int, api.Errno) {
	if e := cmp.Or(mark.Check(b), Check(l), checkDays(known)); e != api.OK {
		return nil, e
	}
	fewer, e := less(l, at)
	if e != api.OK {
		return nil, e
	}
	return toldApart(b, allLives(l, known), allLives(fewer, known)), api.OK
}

// Changed returns the beasts of which something else is told later.
func Changed(b api.Marks, l []api.Event, known, later int) ([]int, api.Errno) {
	if e := cmp.Or(mark.Check(b), Check(l), checkDays(known, later)); e != api.OK {
		return nil, e
	}
	return toldApart(b, allLives(l, known), allLives(l, later)), api.OK
}

// Rests returns the items of the events that matter for what is told of a beast.
func Rests(b api.Marks, l []api.Event, no, known int) ([]api.Item, api.Errno) {
	if e := cmp.Or(mark.Check(b), Check(l), checkBeast(no), checkDays(known)); e != api.OK {
		return nil, e
	}
	now := allLives(l, known)
	if _, e := now.find(no); e != api.OK {
		return nil, e
	}
	is := now.tell(b, no)
	var items []api.Item
	for _, x := range l {
		fewer, _ := less(l, x.At)
		if allLives(fewer, known).tell(b, no) != is {
			items = append(items, x.At)
		}
	}
	return items, api.OK
}
