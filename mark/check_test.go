package mark_test

import (
	"testing"

	"pinfold/api"
	"pinfold/mark"
)

// P1.1: what is valid, at its limits and one beyond them.
func TestChecks(t *testing.T) {
	for _, m := range []api.Mark{{}, {4, 4, 4, 4, 4, 4}, {0, 1, 2, 3, 4, 0}} {
		if e := mark.CheckMark(m); e != api.OK {
			t.Error(m, e)
		}
	}
	for _, m := range badMarks {
		if e := mark.CheckMark(m); e != api.ErrMark {
			t.Error(m, e)
		}
	}
	for _, w := range []api.Wear{plainWear, wWear, {31, 31, 31, 31, 31}} {
		if e := mark.CheckWear(w); e != api.OK {
			t.Error(w, e)
		}
	}
	for _, w := range badWears {
		if e := mark.CheckWear(w); e != api.ErrWear {
			t.Error(w, e)
		}
	}
	for _, r := range []api.Reading{okSeen, readAll, {1, 2, 4, 8, 16, 31}} {
		if e := mark.CheckReading(r); e != api.OK {
			t.Error(r, e)
		}
	}
	for _, r := range badSeen {
		if e := mark.CheckReading(r); e != api.ErrSight {
			t.Error(r, e)
		}
	}
}

// P1.1: mark books, at their limits and one beyond them.
func TestCheckBooks(t *testing.T) {
	good := []api.Marks{
		bookB(),
		fullBook(),
		{Wear: plainWear},
		{Wear: plainWear, Given: []api.Given{}},
		{Wear: plainWear, False: 2},
		{Wear: plainWear, Given: []api.Given{{Owner: 99}}},
		{Wear: wWear, False: 1, Given: []api.Given{{Owner: 1}, {Owner: 2, Mark: api.Mark{2, 2, 2}}}},
		{Wear: wWear, False: 2, Given: []api.Given{{Owner: 1}, {Owner: 2, Mark: api.Mark{2, 2, 2, 2, 2}}}},
	}
	for _, b := range good {
		if e := mark.Check(b); e != api.OK {
			t.Error(b, e)
		}
	}
	for _, b := range badBooks() {
		if e := mark.Check(b); e != api.ErrMarks {
			t.Error(b, e)
		}
	}
}

// P1.1: a mark book that is not valid comes ahead of all other errors, and nothing is returned beside it.
func TestBadBooks(t *testing.T) {
	for _, b := range badBooks() {
		ok, e1 := mark.Possible(b, badMarks[0], badSeen[0])
		l2, e2 := mark.Owners(b, badSeen[0])
		o3, e3 := mark.Owner(b, badSeen[0])
		l4, e4 := mark.Of(b, make([]api.Reading, 61))
		m5, e5 := mark.MarkOf(b, 0)
		m6, e6 := mark.Next(b)
		b7, e7 := mark.Give(b, 0)
		b8, e8 := mark.Add(b, api.Given{Owner: 0, Mark: badMarks[0]})
		b9, e9 := mark.Take(b, 0)
		la, ea := mark.Look(b, badSeen[0])
		eb := mark.CheckLook(b, badSeen[0], []int{6})
		lc, ec := mark.Looked(b, badSeen[0], badSeen[0], []int{6})
		sd, ed := mark.Print(b)
		for i, e := range []api.Errno{e1, e2, e3, e4, e5, e6, e7, e8, e9, ea, eb, ec, ed} {
			if e != api.ErrMarks {
				t.Error(b, i, e)
			}
		}
		zero := api.Mark{}
		if ok || len(l2)+o3+len(l4)+len(la)+len(lc)+len(sd) != 0 || m5 != zero || m6 != zero {
			t.Error(b, ok, l2, o3, l4, m5, m6, la, lc, sd)
		}
		for _, c := range []api.Marks{b7, b8, b9} {
			if !equalBooks(c, api.Marks{}) {
				t.Error(b, c)
			}
		}
	}
}
