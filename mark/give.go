package mark

import (
	"slices"

	"pinfold/api"
)

// everyMark yields all valid marks, in the order of lists of numbers (R6).
func everyMark(yield func(api.Mark) bool) {
	var m api.Mark
	for yield(m) {
		i := api.Places - 1
		for i >= 0 && m[i] == api.Signs-1 {
			m[i] = 0
			i--
		}
		if i < 0 {
			return
		}
		m[i]++
	}
}

// Next returns the first mark that can be given.
func Next(b api.Marks) (api.Mark, api.Errno) {
	if e := Check(b); e != api.OK {
		return api.Mark{}, e
	}
	if len(b.Given) == api.MaxMarks {
		return api.Mark{}, api.ErrFull
	}
	var first api.Mark
	e := api.ErrFull
search:
	for m := range everyMark {
		for _, g := range b.Given {
			if !apart(b.Wear, b.False, g.Mark, m) {
				continue search
			}
		}
		first, e = m, api.OK
		break search
	}
	return first, e
}

// checkNew checks a book, and that an owner can get a mark in it.
func checkNew(b api.Marks, owner int) api.Errno {
	_, e := find(b, owner)
	switch e {
	case api.OK:
		return api.ErrOwner
	case api.ErrNone:
		return api.OK
	}
	return e
}

// with returns a book with one more mark, at its owner's place in the order.
func with(b api.Marks, g api.Given) api.Marks {
	i := 0
	for i < len(b.Given) && b.Given[i].Owner < g.Owner {
		i++
	}
	b.Given = slices.Concat(b.Given[:i], []api.Given{g}, b.Given[i:])
	return b
}

// Give is a mark book in which an owner has the next mark.
func Give(b api.Marks, owner int) (api.Marks, api.Errno) {
	if e := checkNew(b, owner); e != api.OK {
		return api.Marks{}, e
	}
	m, e := Next(b)
	if e != api.OK {
		return api.Marks{}, e
	}
	return with(b, api.Given{Owner: owner, Mark: m}), api.OK
}

// Add is a mark book in which an owner has a mark.
func Add(b api.Marks, g api.Given) (api.Marks, api.Errno) {
	if e := firstError(checkNew(b, g.Owner), CheckMark(g.Mark)); e != api.OK {
		return api.Marks{}, e
	}
	if len(b.Given) == api.MaxMarks {
		return api.Marks{}, api.ErrFull
	}
	if near(b.Wear, b.False, b.Given, g.Mark) {
		return api.Marks{}, api.ErrNear
	}
	return with(b, g), api.OK
}

// Take is a mark book without an owner's mark.
func Take(b api.Marks, owner int) (api.Marks, api.Errno) {
	i, e := find(b, owner)
	if e != api.OK {
		return api.Marks{}, e
	}
	b.Given = slices.Concat(b.Given[:i], b.Given[i+1:])
	return b, api.OK
}
