package stint_test

import (
	"slices"
	"testing"

	"pinfold/api"
	"pinfold/stint"
)

// P2.1: Add puts a deed at its place, and its errors come in order.
func TestAdd(t *testing.T) {
	c := common(hold(1, 5, 1), hold(2, 6, 1))
	c.Deeds[1].At = api.Item{Manor: 3, No: 7}
	for i, at := range []api.Item{{Manor: 0, No: 1}, {Manor: 3, No: 6}, {Manor: 3, No: 8}, {Manor: 5}} {
		x := right(1, 1, 60, 1)
		x.At = at
		wanted := cloneCommon(c)
		wanted.Deeds = slices.Insert(wanted.Deeds, []int{1, 1, 2, 2}[i], x)
		got, e := stint.Add(c, x)
		wantCommon(t, "Add", got, e, wanted, api.OK)
		got, e = stint.Add(wanted, x)
		wantCommon(t, "a deed that is there", got, e, wanted, api.OK)
	}
	first := withdraw(0, 3)
	first.At.No = 1
	got, e := stint.Add(api.Common{}, first)
	wantCommon(t, "the first deed", got, e, api.Common{Deeds: []api.Deed{first}}, api.OK)
}

func TestErrorsOfAdd(t *testing.T) {
	full := fullCommon()
	fewer := cloneCommon(full)
	fewer.Deeds = fewer.Deeds[:59]
	bad := hold(0, 1, 1)
	bad.At = full.Deeds[0].At
	other := full.Deeds[0]
	other.Known++
	another := hold(1, 99, 0)
	for _, c := range []struct {
		c    api.Common
		x    api.Deed
		want api.Errno
	}{
		{badCommons()[0], bad, api.ErrCommon},
		{full, bad, api.ErrDeed},
		{full, other, api.ErrTwo},
		{fewer, other, api.ErrTwo},
		{full, another, api.ErrLong},
	} {
		got, e := stint.Add(c.c, c.x)
		wantCommon(t, "Add", got, e, api.Common{}, c.want)
	}
	got, e := stint.Add(full, full.Deeds[30])
	wantCommon(t, "a full common that has it", got, e, full, api.OK)
	got, e = stint.Add(fewer, full.Deeds[59])
	wantCommon(t, "the last deed that fits", got, e, full, api.OK)
}

// P2.1: two deeds of one item are one only if all their fields are equal.
func TestDeedsThatDiffer(t *testing.T) {
	c := common(hold(1, 1, 1), withdraw(0, 5), let(1, 2, 1, 1, 1, 3))
	c.Deeds = c.Deeds[:2]
	for _, x := range []api.Deed{
		{Kind: api.DeOwner, Day: 1, Known: 1, Holding: 1, Owner: 1},
		{Kind: api.DeHold, Day: 2, Known: 1, Holding: 1, Owner: 1},
		{Kind: api.DeHold, Day: 1, Known: 2, Holding: 1, Owner: 1},
		{Kind: api.DeHold, Day: 1, Known: 1, Holding: 2, Owner: 1},
		{Kind: api.DeHold, Day: 1, Known: 1, Holding: 1, Owner: 2},
	} {
		got, e := stint.Add(c, x)
		wantCommon(t, "Add", got, e, api.Common{}, api.ErrTwo)
	}
	l := let(1, 2, 1, 1, 1, 3)
	for _, x := range []api.Deed{let(1, 3, 1, 1, 1, 3), let(1, 2, 2, 1, 1, 3), let(1, 2, 1, 2, 1, 3), let(1, 2, 1, 1, 1, 4)} {
		got, e := stint.Join(api.Common{}, []api.Deed{l, x})
		wantCommon(t, "Join", got, e, api.Common{}, api.ErrTwo)
	}
}

// P2.1: Join, and its errors: the first deed with one decides, and only the end may be too long.
func TestJoin(t *testing.T) {
	full := fullCommon()
	none := api.Common{Pastures: full.Pastures, Byelaws: full.Byelaws}
	for _, l := range [][]api.Deed{nil, {}} {
		got, e := stint.Join(full, l)
		wantCommon(t, "nothing", got, e, full, api.OK)
	}
	back := slices.Clone(full.Deeds)
	slices.Reverse(back)
	got, e := stint.Join(none, slices.Concat(back, full.Deeds, back))
	wantCommon(t, "some twice", got, e, full, api.OK)
	got, e = stint.Join(full, back)
	wantCommon(t, "all are there", got, e, full, api.OK)
	bad, new := hold(1, 0, 1), hold(1, 1, 1)
	other := full.Deeds[3]
	other.Owner = 1
	changed := new
	changed.Known = 7
	for _, c := range []struct {
		c    api.Common
		l    []api.Deed
		want api.Errno
	}{
		{badCommons()[2], []api.Deed{bad}, api.ErrCommon},
		{full, []api.Deed{new, bad, other}, api.ErrDeed},
		{full, []api.Deed{new, other, bad}, api.ErrTwo},
		{full, []api.Deed{new, new}, api.ErrLong},
		{none, append(back, new), api.ErrLong},
		{none, []api.Deed{new, changed}, api.ErrTwo},
		{full, []api.Deed{full.Deeds[3], other}, api.ErrTwo},
	} {
		got, e := stint.Join(c.c, c.l)
		wantCommon(t, "Join", got, e, api.Common{}, c.want)
	}
}

// P2.4: Join of deeds in any order, and in any parts, is the same common; Add is Join with one deed.
func TestJoined(t *testing.T) {
	x := newRandom()
	for range 200 {
		c := randomCommon(x)
		l := slices.Concat(c.Deeds, c.Deeds[:x.IntN(len(c.Deeds))])
		x.Shuffle(len(l), func(i, j int) { l[i], l[j] = l[j], l[i] })
		start := cloneCommon(c)
		start.Deeds = nil
		parts, single := start, start
		for rest := l; len(rest) > 0; {
			n := 1 + x.IntN(len(rest))
			var e api.Errno
			parts, e = stint.Join(parts, rest[:n])
			wantErrno(t, e, api.OK)
			rest = rest[n:]
		}
		wantCommon(t, "parts", parts, api.OK, c, api.OK)
		for _, d := range l {
			next, e := stint.Add(single, d)
			one, f := stint.Join(single, []api.Deed{d})
			wantCommon(t, "Add and Join", next, e, one, f)
			single = next
		}
		wantCommon(t, "one by one", single, api.OK, c, api.OK)
	}
}

func wantErrno(t *testing.T, e, wanted api.Errno) {
	t.Helper()
	if e != wanted {
		t.Errorf("%d; want %d", e, wanted)
	}
}

// P2.1: deeds stand from the day on which they are known, unless a withdrawal that stands names them.
func TestStanding(t *testing.T) {
	c := common(hold(1, 5, 10), hold(2, 5, 1), withdraw(0, 20), withdraw(2, 30), withdraw(3, 40), withdraw(1, 0), withdraw(1, 50))
	for _, d := range []struct {
		known int
		want  []int
	}{
		{0, []int{5}},
		{9, []int{5}},
		{10, []int{0, 5}},
		{19, []int{0, 5}},
		{20, []int{2, 5}},
		{29, []int{2, 5}},
		{30, []int{0, 3, 5}},
		{39, []int{0, 3, 5}},
		{40, []int{2, 4, 5}},
		{50, []int{2, 4, 5, 6}},
		{api.MaxDay, []int{2, 4, 5, 6}},
	} {
		got, e := stint.Standing(c, d.known)
		want(t, "Standing", got, e, d.want, api.OK)
	}
	c.Deeds[6].Of = api.Item{No: 5}
	got, e := stint.Standing(c, 50)
	want(t, "a withdrawal is withdrawn", got, e, []int{1, 2, 4, 6}, api.OK)
	got, e = stint.Standing(c, 49)
	want(t, "it is not yet", got, e, []int{2, 4, 5}, api.OK)
	got, e = stint.Standing(api.Common{}, 0)
	want(t, "no deeds", got, e, nil, api.OK)
}

// P2.1: a withdrawal names an item of its own manor, and one that the common need not have.
func TestWithdrawnItems(t *testing.T) {
	l := []api.Deed{hold(1, 1, 0), withdraw(3, 0), hold(2, 1, 0), withdraw(7, 0)}
	for i, at := range []api.Item{{Manor: 0, No: 3}, {Manor: 0, No: 5}, {Manor: 1, No: 3}, {Manor: 1, No: 9}} {
		l[i].At = at
		if l[i].Kind == api.DeWithdraw {
			l[i].Of.Manor = at.Manor
		}
	}
	got, e := stint.Standing(api.Common{Deeds: l}, 0)
	want(t, "Standing", got, e, []int{1, 2, 3}, api.OK)
}

// P2.1: Void has the items of deeds that are void at any time, in the order of items.
func TestVoid(t *testing.T) {
	c := common(join(1, 3, 90), sell(9, 1, 80), hold(1, 5, 10), hold(1, 6, 70), right(2, 1, 5, 1), hold(2, 5, 2), withdraw(1, 5))
	for _, d := range []struct {
		known int
		want  []int
	}{{0, nil}, {1, []int{4}}, {9, []int{4}}, {70, []int{3, 4}}, {80, []int{3, 4}}, {90, []int{0, 3, 4}}, {api.MaxDay, []int{0, 3, 4}}} {
		var wanted []api.Item
		for _, no := range d.want {
			wanted = append(wanted, api.Item{No: no})
		}
		got, e := stint.Void(c, d.known)
		want(t, "Void", got, e, wanted, api.OK)
	}
	c.Deeds = append(c.Deeds, right(7, 1, 5, api.MaxDay))
	c.Deeds[7].At.Manor = 1
	c.Deeds[7].Known = 0
	got, e := stint.Void(c, 0)
	want(t, "on the last day", got, e, []api.Item{{Manor: 1}}, api.OK)
}
