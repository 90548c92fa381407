package herd_test

import (
	"slices"
	"testing"

	"pinfold/api"
	"pinfold/herd"
)

// P4.1: Add at each place of a list, and of what a list has.
func TestAdd(t *testing.T) {
	l := example()
	for i, x := range l {
		fewer := slices.Delete(slices.Clone(l), i, i+1)
		got, e := herd.Add(fewer, x)
		wantEvents(t, "Add", got, e, l, api.OK)
		got, e = herd.Add(l, x)
		wantEvents(t, "Add again", got, e, l, api.OK)
	}
	x := died(4, 4)
	got, e := herd.Add(nil, x)
	wantEvents(t, "Add to nothing", got, e, []api.Event{x}, api.OK)
	x.At = api.Item{Manor: 5}
	got, e = herd.Add(l, x)
	wantEvents(t, "Add of another manor", got, e, append(l, x), api.OK)
}

// others has, for each number of an event, a valid one that differs just there.
func others(x api.Event) []api.Event {
	var l []api.Event
	for name := range numbersIn(&x) {
		for _, by := range []int{-1, 1} {
			y := x
			*numbersIn(&y)[name] += by
			if herd.CheckEvent(y) == api.OK && y.At == x.At {
				l = append(l, y)
			}
		}
	}
	return l
}

// P4.1: two events of one item that differ in any number, or in their kind, are not the same.
func TestSame(t *testing.T) {
	for kind := range api.EvDied + 1 {
		x := eventOf(kind)
		differ := others(x)
		for other := range api.EvDied + 1 {
			if other != kind {
				differ = append(differ, eventOf(other))
			}
		}
		if len(differ) < api.EvDied+2 {
			t.Fatal("few others", x, differ)
		}
		for _, y := range differ {
			got, e := herd.Add([]api.Event{x}, y)
			wantEvents(t, "Add", got, e, nil, api.ErrSame)
			got, e = herd.Join([]api.Event{died(1, 1), x}, []api.Event{y})
			wantEvents(t, "Join", got, e, nil, api.ErrSame)
		}
	}
}

// P4.1: the errors of Add and Join, in their order, and as many events as there may be.
func TestAddErrors(t *testing.T) {
	full := fullList()
	less := slices.Delete(fullList(), 7, 8)
	first := died(1, 1)
	other := full[3]
	other.Beast--
	bad := full[3]
	bad.Beast = 0
	for _, c := range []struct {
		l    []api.Event
		x    api.Event
		want api.Errno
	}{
		{badLists()[0], bad, api.ErrEvents},
		{badLists()[5], other, api.ErrEvents},
		{full, bad, api.ErrEvent},
		{full, api.Event{}, api.ErrEvent},
		{nil, api.Event{}, api.ErrEvent},
		{full, other, api.ErrSame},
		{full, first, api.ErrLong},
	} {
		got, e := herd.Add(c.l, c.x)
		wantEvents(t, "Add", got, e, nil, c.want)
	}
	got, e := herd.Add(less, full[7])
	wantEvents(t, "the last one that fits", got, e, full, api.OK)
	for _, l := range badLists() {
		got, e := herd.Join(l, full)
		wantEvents(t, "Join of a bad one", got, e, nil, api.ErrEvents)
		got, e = herd.Join([]api.Event{other}, l)
		wantEvents(t, "Join with a bad one", got, e, nil, api.ErrEvents)
	}
	got, e = herd.Join([]api.Event{first, other}, full)
	wantEvents(t, "Join of differing ones", got, e, nil, api.ErrSame)
	got, e = herd.Join([]api.Event{first}, full)
	wantEvents(t, "Join of too many", got, e, nil, api.ErrLong)
	got, e = herd.Join(full[:40], full[20:])
	wantEvents(t, "Join of as many as may be", got, e, full, api.OK)
}

// P4.1: Without each event of a list, and without one that it has not.
func TestWithout(t *testing.T) {
	l := example()
	for i, x := range l {
		got, e := herd.Without(l, x.At)
		wantEvents(t, "Without", got, e, slices.Delete(slices.Clone(l), i, i+1), api.OK)
	}
	got, e := herd.Without(l[:1], l[0].At)
	wantEvents(t, "Without the only one", got, e, nil, api.OK)
	for _, at := range []api.Item{item(10), item(-1), {Manor: 1}, {Manor: 6, No: 1}, item(9999)} {
		got, e := herd.Without(l, at)
		wantEvents(t, "Without none", got, e, nil, api.ErrNone)
	}
	got, e = herd.Without(nil, item(0))
	wantEvents(t, "Without of nothing", got, e, nil, api.ErrNone)
	for _, l := range badLists() {
		got, e := herd.Without(l, item(0))
		wantEvents(t, "Without of a bad one", got, e, nil, api.ErrEvents)
	}
}

// P4.1: Dates has the days of all events, also of what is withdrawn and of withdrawals.
func TestDates(t *testing.T) {
	for _, c := range []struct {
		l    []api.Event
		want []int
	}{
		{nil, nil},
		{example(), []int{1, 5, 6, 7, 9, 10, 11, 12, 14}},
		{fullList(), []int{0, api.MaxDay}},
		{listed(died(1, 9), died(1, 3), withdraw(0, 2), died(1, 3)), []int{2, 3, 9}},
		{listed(late(died(1, 9), 1), late(died(1, 3), 5)), []int{1, 5}},
	} {
		days, e := herd.Dates(c.l)
		want(t, "Dates", days, e, c.want, api.OK)
	}
}

// P4.4: Join is commutative, associative and idempotent; Add is Join with one event.
func TestJoin(t *testing.T) {
	x := newRandom()
	b := bookB()
	fine, same := 0, 0
	for range 300 {
		k, l, m := randomList(x, b), randomList(x, b), randomList(x, b)
		if x.IntN(3) > 0 { // parts of one list have no events that differ
			l, m = slices.Clone(k), slices.Clone(k)
			for _, some := range []*[]api.Event{&k, &l, &m} {
				*some = slices.DeleteFunc(slices.Clone(*some), func(api.Event) bool { return x.IntN(2) == 0 })
			}
		}
		kl, e := herd.Join(k, l)
		lk, f := herd.Join(l, k)
		wantEvents(t, "commutative", lk, f, kl, e)
		kk, f := herd.Join(k, k)
		wantEvents(t, "idempotent", kk, f, k, api.OK)
		lm, f := herd.Join(l, m)
		if e == api.OK && f == api.OK {
			left, e := herd.Join(kl, m)
			right, f := herd.Join(k, lm)
			wantEvents(t, "associative", left, e, right, f)
		}
		for _, one := range l {
			added, e := herd.Add(k, one)
			joined, f := herd.Join(k, []api.Event{one})
			wantEvents(t, "Add", added, e, joined, f)
		}
		if e == api.OK {
			fine++
			wantUnion(t, k, l, kl)
		} else {
			same++
			wantErrno(t, "Join", e, api.ErrSame)
		}
	}
	if fine < 100 || same < 20 {
		t.Error(fine, same)
	}
}

func wantUnion(t *testing.T, k, l, joined []api.Event) {
	t.Helper()
	wantErrno(t, "Check", herd.Check(joined), api.OK)
	for _, x := range joined {
		if !slices.Contains(k, x) && !slices.Contains(l, x) {
			t.Error("of neither", x)
		}
	}
	for _, x := range slices.Concat(k, l) {
		if !slices.Contains(joined, x) {
			t.Error("missing", x)
		}
	}
}
