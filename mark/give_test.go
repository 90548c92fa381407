package mark_test

import (
	"slices"
	"testing"

	"pinfold/api"
	"pinfold/mark"
)

// P1.1: MarkOf and Take, and their errors.
func TestMarkOfAndTake(t *testing.T) {
	b := bookB()
	for _, g := range b.Given {
		if m, e := mark.MarkOf(b, g.Owner); m != g.Mark || e != api.OK {
			t.Error(g, m, e)
		}
		c, e := mark.Take(b, g.Owner)
		if len(c.Given) != 2 || slices.Contains(c.Given, g) || c.Wear != b.Wear || e != api.OK {
			t.Error(g, c, e)
		}
	}
	for owner, want := range map[int]api.Errno{-1: api.ErrOwner, 0: api.ErrOwner, 100: api.ErrOwner, 4: api.ErrNone, 99: api.ErrNone} {
		if m, e := mark.MarkOf(b, owner); m != (api.Mark{}) || e != want {
			t.Error(owner, m, e)
		}
		c, e := mark.Take(b, owner)
		wantBook(t, "Take", c, e, api.Marks{}, want)
	}
	one := api.Marks{Wear: wWear, False: 2, Given: []api.Given{{Owner: 99, Mark: api.Mark{4}}}}
	c, e := mark.Take(one, 99)
	wantBook(t, "the last one", c, e, api.Marks{Wear: wWear, False: 2}, api.OK)
}

// P1.1: Next of examples, and where there is none.
func TestNext(t *testing.T) {
	never := api.Wear{31, 31, 31, 31, 31}
	lastOnly := api.Wear{15, 15, 15, 15, 16}
	// No further mark that is plain at the first place is apart from all of these.
	fives := api.Marks{Wear: plainWear, False: 2}
	for sign := range api.Signs {
		fives.Given = append(fives.Given, api.Given{Owner: 1 + sign, Mark: api.Mark{0, sign, sign, sign, sign, sign}})
	}
	for _, c := range []struct {
		b    api.Marks
		want api.Mark
		e    api.Errno
	}{
		{bookB(), api.Mark{0, 0, 0, 0, 0, 2}, api.OK},
		{api.Marks{Wear: wWear, False: 2}, api.Mark{}, api.OK},
		{api.Marks{Wear: wWear, False: 2, Given: []api.Given{{Owner: 1}}}, api.Mark{0, 2, 2, 2, 2, 2}, api.OK},
		{api.Marks{Wear: plainWear, False: 1, Given: []api.Given{{Owner: 1}}}, api.Mark{0, 0, 0, 1, 1, 1}, api.OK},
		{fives, api.Mark{1, 0, 1, 2, 3, 4}, api.OK},
		{api.Marks{Wear: lastOnly, Given: []api.Given{{Owner: 1}}}, api.Mark{0, 0, 0, 0, 0, 4}, api.OK},
		{api.Marks{Wear: never}, api.Mark{}, api.OK},
		{api.Marks{Wear: never, Given: []api.Given{{Owner: 7}}}, api.Mark{}, api.ErrFull},
		{fullBook(), api.Mark{}, api.ErrFull},
	} {
		if m, e := mark.Next(c.b); m != c.want || e != c.e {
			t.Error(c, m, e)
		}
	}
	b := fullBook()
	b.Given = b.Given[:api.MaxMarks-1]
	if m, e := mark.Next(b); m != (api.Mark{0, 0, 0, 0, 0, 1}) || e != api.OK {
		t.Error(m, e)
	}
}

// P1.1: Give of examples, and its errors in order.
func TestGive(t *testing.T) {
	b := bookB()
	want := cloneBook(b)
	want.Given = append(want.Given, api.Given{Owner: 9, Mark: api.Mark{0, 0, 0, 0, 0, 2}})
	c, e := mark.Give(b, 9)
	wantBook(t, "Give", c, e, want, api.OK)
	full := fullBook()
	for _, owner := range []int{-1, 0, 100, 40} {
		c, e := mark.Give(full, owner)
		wantBook(t, "a bad owner", c, e, api.Marks{}, api.ErrOwner)
	}
	c, e = mark.Give(full, 41)
	wantBook(t, "a full book", c, e, api.Marks{}, api.ErrFull)
	late := api.Marks{Wear: plainWear, Given: []api.Given{{Owner: 99}}}
	c, e = mark.Give(late, 1)
	late.Given = []api.Given{{Owner: 1, Mark: api.Mark{0, 0, 0, 0, 0, 1}}, {Owner: 99}}
	wantBook(t, "an earlier owner", c, e, late, api.OK)
}

// P1.1: Add, and its errors in order.
func TestAdd(t *testing.T) {
	b := bookB()
	full := fullBook()
	bad := badMarks[0]
	for _, c := range []struct {
		b    api.Marks
		g    api.Given
		want api.Errno
	}{
		{full, api.Given{Owner: 0, Mark: bad}, api.ErrOwner},
		{full, api.Given{Owner: 100, Mark: bad}, api.ErrOwner},
		{full, api.Given{Owner: 7, Mark: bad}, api.ErrOwner},
		{full, api.Given{Owner: 41, Mark: bad}, api.ErrMark},
		{full, api.Given{Owner: 41}, api.ErrFull},
		{full, api.Given{Owner: 41, Mark: api.Mark{4, 4, 4, 4, 4, 4}}, api.ErrFull},
		{b, api.Given{Owner: 8, Mark: api.Mark{1}}, api.ErrNear},
		{b, api.Given{Owner: 8, Mark: api.Mark{4, 0, 0, 0, 0, 2}}, api.ErrNear},
		{b, api.Given{Owner: 3, Mark: api.Mark{1}}, api.ErrOwner},
	} {
		got, e := mark.Add(c.b, c.g)
		wantBook(t, "Add", got, e, api.Marks{}, c.want)
	}
	for _, owner := range []int{4, 99} {
		g := api.Given{Owner: owner, Mark: api.Mark{0, 2}}
		want := cloneBook(b)
		want.Given = append(want.Given, g)
		got, e := mark.Add(b, g)
		wantBook(t, "Add", got, e, want, api.OK)
	}
	less, _ := mark.Take(b, 2)
	got, e := mark.Add(less, b.Given[1])
	wantBook(t, "in between", got, e, b, api.OK)
	fewer, _ := mark.Take(full, 17)
	got, e = mark.Add(fewer, full.Given[16])
	wantBook(t, "the last one that fits", got, e, full, api.OK)
}

// P1.5: the mark of Next can be added, no mark ahead of it can, and Give leaves the others their marks.
func TestNextIsFirst(t *testing.T) {
	x := newRandom()
	for range 10 {
		b := randomBook(x)
		m, e := mark.Next(b)
		first, ok := firstAdded(b, 98)
		if e == api.OK && (!ok || m != first) || e == api.ErrFull && (ok || m != (api.Mark{})) {
			t.Fatal(b, m, e, first, ok)
		}
		owner := 1 + x.IntN(99)
		_, none := mark.MarkOf(b, owner)
		c, f := mark.Give(b, owner)
		if none != api.ErrNone {
			wantBook(t, "an owner with a mark", c, f, api.Marks{}, api.ErrOwner)
			continue
		}
		if f != e {
			t.Fatal(b, e, f)
		}
		if f == api.OK {
			checkGiven(t, b, c, api.Given{Owner: owner, Mark: m})
		}
	}
}

// firstAdded tries all marks in their order; the owner is another one if it has a mark.
func firstAdded(b api.Marks, owner int) (api.Mark, bool) {
	for {
		if _, e := mark.MarkOf(b, owner); e == api.ErrNone {
			break
		}
		owner--
	}
	for n := range 5 * 5 * 5 * 5 * 5 * 5 {
		m := api.Mark{n / 3125, n / 625 % 5, n / 125 % 5, n / 25 % 5, n / 5 % 5, n % 5}
		if _, e := mark.Add(b, api.Given{Owner: owner, Mark: m}); e == api.OK {
			return m, true
		}
	}
	return api.Mark{}, false
}

func checkGiven(t *testing.T, b, c api.Marks, g api.Given) {
	t.Helper()
	if mark.Check(c) != api.OK || len(c.Given) != len(b.Given)+1 {
		t.Fatal(b, c)
	}
	for _, h := range append([]api.Given{g}, b.Given...) {
		if m, e := mark.MarkOf(c, h.Owner); m != h.Mark || e != api.OK {
			t.Fatal(b, c, h, m, e)
		}
	}
}

// P1.1: a result shares no memory with an argument, which is not changed (R4).
func TestMemory(t *testing.T) {
	b := bookB()
	b.Given = slices.Grow(b.Given, 10)
	want := cloneBook(b)
	room := b.Given[:4]
	for _, change := range []func() (api.Marks, api.Errno){
		func() (api.Marks, api.Errno) { return mark.Give(b, 9) },
		func() (api.Marks, api.Errno) { return mark.Add(b, api.Given{Owner: 8, Mark: api.Mark{0, 2}}) },
		func() (api.Marks, api.Errno) { return mark.Take(b, 1) },
		func() (api.Marks, api.Errno) { return mark.Take(b, 3) },
	} {
		c, e := change()
		if e != api.OK {
			t.Fatal(e)
		}
		for i := range c.Given {
			c.Given[i] = api.Given{Owner: 77}
		}
		if !equalBooks(b, want) || room[3] != (api.Given{}) {
			t.Fatal(b, room)
		}
	}
}
