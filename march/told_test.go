package march_test

import (
	"fmt"
	"math/rand/v2"
	"slices"
	"testing"

	"pinfold/api"
	"pinfold/march"
)

// P9.1: the riders that go out, by what is written alone.
func TestOut(t *testing.T) {
	each(500, func(_ *rand.Rand, p api.Pound) {
		for to := range api.MaxManors {
			name := fmt.Sprint("Out ", p, to)
			got, e := march.Out(p, to)
			if to == p.Me {
				want(t, name, got, e, nil, api.ErrManor)
				continue
			}
			want(t, name, got, e, retoldOut(p, to), api.OK)
			lost, e := march.Crash(p, 0)
			wantErrno(t, name, e, api.OK)
			same, e := march.Out(lost, to)
			want(t, name+" behind Crash", same, e, got, api.OK)
			for _, r := range got {
				wantErrno(t, fmt.Sprint("CheckRider ", r), march.CheckRider(r), api.OK)
			}
		}
	})
}

// P9.1: the riders of busy's pound, entry by entry as they are written.
func TestOutOfEachEntry(t *testing.T) {
	p := with(busy(), en(api.EnDone, 8, 1, 1), en(api.EnBack, 9, 3, 2), en(api.EnTake, 30, 4, 2), en(api.EnSend, 30, 4, 3), en(api.EnSend, 10, 4, 4))
	offer, recall := rider(api.RdOffer, 2, 1, 8, 1), rider(api.RdRecall, 2, 3, 9, 2)
	receipt, refused := rider(api.RdReceipt, 2, 4, 10, 5), rider(api.RdRefused, 2, 4, 11, 6)
	early := rider(api.RdReceipt, 2, 4, 30, 2)
	rides := []api.Rider{rider(api.RdOffer, 2, 4, 30, 3), rider(api.RdOffer, 2, 4, 10, 4)}
	for firm, wanted := range map[int]map[int][]api.Rider{
		0:  {},
		2:  {},
		3:  {1: {offer}},
		5:  {1: {offer}, 3: {rider(api.RdOffer, 2, 3, 9, 2)}},
		6:  {1: {offer}, 3: {recall}},
		7:  {1: {offer}, 3: {recall}, 4: {receipt}},
		8:  {1: {offer}, 3: {recall}, 4: {receipt, refused}},
		9:  {3: {recall}, 4: {receipt, refused}},
		10: {4: {receipt, refused}},
		11: {4: {early, receipt, refused}},
		12: {4: {rides[0], early, receipt, refused}},
		13: {4: {rides[0], rides[1], early, receipt, refused}},
	} {
		for _, to := range []int{0, 1, 3, 4, 5} {
			got, e := march.Out(changed(p, func(p *api.Pound) { p.Firm = firm }), to)
			want(t, fmt.Sprint("Out ", firm, to), got, e, wanted[to], api.OK)
		}
	}
	for _, to := range append(outside(0, 5), 2) {
		got, e := march.Out(p, to)
		want(t, "Out", got, e, nil, api.ErrManor)
	}
	// The numbers of rides are those of their senders: they need not rise in a journal that takes them.
	ends := poundOf(2, 3, en(api.EnTake, 30, 4, 200), en(api.EnRefuse, 31, 4, 1), en(api.EnRefuse, 32, 5, 200))
	got, e := march.Out(ends, 4)
	want(t, "Out", got, e, []api.Rider{rider(api.RdRefused, 2, 4, 31, 1), rider(api.RdReceipt, 2, 4, 30, 200)}, api.OK)
	got, e = march.Out(ends, 5)
	want(t, "Out", got, e, []api.Rider{rider(api.RdRefused, 2, 5, 32, 200)}, api.OK)
}

// P9.1: the beasts that are here, and the rides on their way, by all entries.
func TestHereAndRides(t *testing.T) {
	each(800, func(_ *rand.Rand, p api.Pound) {
		beasts, e := march.Here(p)
		want(t, fmt.Sprint("Here ", p), beasts, e, retoldHere(p.Journal), api.OK)
		rides, e := march.Rides(p)
		want(t, fmt.Sprint("Rides ", p), rides, e, retoldRides(p.Journal), api.OK)
		p.Firm = 0
		same, e := march.Here(p)
		want(t, fmt.Sprint("Here ", p), same, e, beasts, api.OK)
		again, e := march.Rides(p)
		want(t, fmt.Sprint("Rides ", p), again, e, rides, api.OK)
	})
	beasts, e := march.Here(busy())
	want(t, "Here", beasts, e, []int{7, 10}, api.OK)
	rides, e := march.Rides(busy())
	want(t, "Rides", rides, e, []api.Ride{{No: 1, To: 1, Beast: 8}, {No: 2, To: 3, Beast: 9, Called: true}}, api.OK)
	late := poundOf(0, 0, en(api.EnPound, 9999), en(api.EnPound, 30), en(api.EnPound, 4), en(api.EnTake, 11, 1, 1))
	beasts, e = march.Here(late)
	want(t, "Here", beasts, e, []int{4, 11, 30, 9999}, api.OK)
}

// P9.1: what is known of rides of other manors.
func TestKnows(t *testing.T) {
	each(300, func(_ *rand.Rand, p api.Pound) {
		for from := range api.MaxManors {
			for _, no := range []int{1, 2, 3, 4, 5, 6, 200} {
				got, e := march.Knows(p, from, no)
				name := fmt.Sprint("Knows ", p, from, no)
				if from == p.Me {
					want(t, name, got, e, 0, api.ErrManor)
				} else {
					want(t, name, got, e, retoldKnows(p.Journal, from, no), api.OK)
				}
			}
		}
	})
	for no, wanted := range map[int]int{1: 0, 4: 0, 5: api.EnTake, 6: api.EnRefuse, 7: 0, 200: 0} {
		got, e := march.Knows(busy(), 4, no)
		want(t, "Knows", got, e, wanted, api.OK)
		got, e = march.Knows(busy(), 1, no)
		want(t, "Knows", got, e, 0, api.OK)
		got, e = march.Knows(busy(), 2, no)
		want(t, "Knows", got, e, 0, api.ErrManor)
	}
}

// P9.1: the entries about a beast.
func TestTrace(t *testing.T) {
	each(300, func(_ *rand.Rand, p api.Pound) {
		for _, beast := range beastsAround() {
			got, e := march.Trace(p, beast)
			want(t, fmt.Sprint("Trace ", p, beast), got, e, retoldTrace(p, beast), api.OK)
		}
	})
	for beast, wanted := range map[int][]api.Entry{
		7: {en(api.EnPound, 7)}, 8: {en(api.EnPound, 8), en(api.EnSend, 8, 1, 1)}, 9: {en(api.EnPound, 9), en(api.EnSend, 9, 3, 2), en(api.EnCall, 9, 3, 2)},
		10: {en(api.EnTake, 10, 4, 5)}, 11: {en(api.EnRefuse, 11, 4, 6)}, 1: nil, 5: nil, 9999: nil,
	} {
		got, e := march.Trace(busy(), beast)
		want(t, fmt.Sprint("Trace ", beast), got, e, wanted, api.OK)
	}
}

// randomPounds are those of some manors, which need not know of each other.
func randomPounds(x *rand.Rand) []api.Pound {
	var l []api.Pound
	for me := range api.MaxManors {
		if x.IntN(3) > 0 {
			l = append(l, randomPoundOf(x, me))
		}
	}
	return l
}

// P9.1: where a beast is, and on which rides, in several pounds.
func TestWhereAndRiding(t *testing.T) {
	many, taken := 0, 0
	x := newRandom()
	for range 2000 {
		l := randomPounds(x)
		for _, beast := range beastsAround() {
			manors, e := march.Where(l, beast)
			want(t, fmt.Sprint("Where ", l, beast), manors, e, retoldWhere(l, beast), api.OK)
			rides, e := march.Riding(l, beast)
			want(t, fmt.Sprint("Riding ", l, beast), rides, e, retoldRiding(l, beast), api.OK)
			many += max(0, len(rides)-1)
			for _, p := range l {
				for _, ride := range retoldRides(p.Journal) {
					if ride.Beast == beast && !slices.Contains(rides, ride) {
						taken++
					}
				}
			}
		}
	}
	if many < 100 || taken < 100 {
		t.Error("too few rides are those of one beast, or are taken: ", many, taken)
	}
}

// P9.1: a ride is taken just if the pound of its To says so: not if that is missing, or has taken another one's ride, or refused it.
func TestRidingOfWhatIsTaken(t *testing.T) {
	three := manyPounds()
	eight := api.Ride{No: 1, To: 1, Beast: 8}
	nine := api.Ride{No: 2, To: 3, Beast: 9, Called: true}
	taking := func(other, no int) api.Pound { return poundOf(1, 0, en(api.EnTake, 8, other, no)) }
	for i, c := range []struct {
		l     []api.Pound
		beast int
		where []int
		rides []api.Ride
	}{
		{three, 7, []int{2}, nil},
		{three, 10, []int{2}, nil},
		{three, 20, []int{1}, nil},
		{three, 1, nil, nil},
		{three, 8, nil, []api.Ride{eight}},
		{three, 9, []int{3}, nil},
		{three[:2], 9, nil, []api.Ride{nine}},
		{three[1:2], 8, nil, []api.Ride{eight}},
		{nil, 8, nil, nil},
		{[]api.Pound{taking(2, 1), busy()}, 8, []int{1}, nil},
		{[]api.Pound{taking(3, 1), busy()}, 8, []int{1}, []api.Ride{eight}},
		{[]api.Pound{taking(2, 2), busy()}, 8, []int{1}, []api.Ride{eight}},
		{[]api.Pound{poundOf(0, 0, en(api.EnTake, 8, 2, 1)), busy()}, 8, []int{0}, []api.Ride{eight}},
		{[]api.Pound{poundOf(1, 0, en(api.EnRefuse, 8, 2, 1)), busy()}, 8, nil, []api.Ride{eight}},
		{[]api.Pound{poundOf(1, 0, en(api.EnPound, 8), en(api.EnSend, 8, 5, 1)), busy(), {Me: 5}}, 8, nil, []api.Ride{{No: 1, To: 5, Beast: 8}, eight}},
	} {
		manors, e := march.Where(c.l, c.beast)
		want(t, fmt.Sprint("Where ", i), manors, e, c.where, api.OK)
		rides, e := march.Riding(c.l, c.beast)
		want(t, fmt.Sprint("Riding ", i), rides, e, c.rides, api.OK)
	}
}

// P9.1: what are no pounds.
func TestBadLists(t *testing.T) {
	for i, l := range badLists() {
		manors, e := march.Where(l, 7)
		want(t, fmt.Sprintf("Where %d %.300v", i, l), manors, e, nil, api.ErrPounds)
		rides, e := march.Riding(l, 7)
		want(t, fmt.Sprintf("Riding %d %.300v", i, l), rides, e, nil, api.ErrPounds)
	}
	var six []api.Pound
	for me := range api.MaxManors {
		six = append(six, api.Pound{Me: me})
	}
	six[2] = full()
	manors, e := march.Where(six, 7)
	want(t, "Where of six", manors, e, []int{2}, api.OK)
	slices.Reverse(six)
	manors, e = march.Where(six, 7)
	want(t, "Where of six", manors, e, nil, api.ErrPounds)
}
