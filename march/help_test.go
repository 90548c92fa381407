package march_test

import (
	"fmt"
	"math"
	"math/rand/v2"
	"slices"
	"testing"

	"pinfold/api"
	"pinfold/march"
)

// en is an entry; of a ride, if its Other and No follow.
func en(kind, beast int, ride ...int) api.Entry {
	x := api.Entry{Kind: kind, Beast: beast}
	if len(ride) > 0 {
		x.Other, x.No = ride[0], ride[1]
	}
	return x
}

func rider(kind, from, to, beast, no int) api.Rider {
	return api.Rider{Kind: kind, From: from, To: to, Beast: beast, No: no}
}

// poundOf is the pound of a manor of which the first entries of the journal are written.
func poundOf(me, firm int, journal ...api.Entry) api.Pound {
	return api.Pound{Me: me, Journal: journal, Firm: firm}
}

// busy is the pound of the manor 2: 7 and 10 are here, 8 and 9 are on their way to 1 and 3, 9 is called back; a ride of 4 is taken, and one refused. All but the last two entries are written.
func busy() api.Pound {
	return poundOf(2, 6,
		en(api.EnPound, 7), en(api.EnPound, 8), en(api.EnSend, 8, 1, 1), en(api.EnPound, 9), en(api.EnSend, 9, 3, 2), en(api.EnCall, 9, 3, 2),
		en(api.EnTake, 10, 4, 5), en(api.EnRefuse, 11, 4, 6))
}

// filled is a pound with so many entries: behind its own ones a beast comes and goes.
func filled(p api.Pound, many int) api.Pound {
	p.Journal = slices.Clone(p.Journal)
	for len(p.Journal) < many {
		p.Journal = append(p.Journal, en(api.EnPound, 5555))
		if len(p.Journal) < many {
			p.Journal = append(p.Journal, en(api.EnRelease, 5555))
		}
	}
	return p
}

// full is busy's pound with as many entries as there may be.
func full() api.Pound { return filled(busy(), api.MaxJournal) }

// changed is a pound in which something is another.
func changed(p api.Pound, change func(p *api.Pound)) api.Pound {
	p.Journal = slices.Clone(p.Journal)
	change(&p)
	return p
}

// with is a pound with more entries.
func with(p api.Pound, more ...api.Entry) api.Pound {
	p.Journal = slices.Concat(p.Journal, more)
	return p
}

// outside has numbers that are not from lo to hi.
func outside(lo, hi int) []int {
	return []int{lo - 1, hi + 1, math.MinInt, math.MaxInt}
}

func newRandom() *rand.Rand { return rand.New(rand.NewPCG(9, 26)) }

// pick is one of some values.
func pick[T any](x *rand.Rand, l ...T) T { return l[x.IntN(len(l))] }

// randomBeast is one of a few.
func randomBeast(x *rand.Rand) int { return pick(x, 1, 2, 3, 4, 9999) }

// randomEntry is one that may often be behind a journal, and often just not.
func randomEntry(x *rand.Rand, l []api.Entry) api.Entry {
	kind := api.EnPound + x.IntN(api.EnRefuse)
	if kind <= api.EnRelease {
		return en(kind, randomBeast(x))
	}
	y := en(kind, randomBeast(x), x.IntN(api.MaxManors), 1+x.IntN(5))
	rides := retoldRides(l)
	switch {
	case kind == api.EnSend && x.IntN(8) > 0:
		y.No = retoldSent(l) + 1
	case kind > api.EnSend && kind <= api.EnBack && len(rides) > 0:
		ride := pick(x, rides...)
		y = en(kind, ride.Beast, ride.To, ride.No)
		spoil := []*int{&y.Beast, &y.Other, &y.No}
		if x.IntN(6) == 0 {
			*pick(x, spoil...) += 1
		}
	}
	return y
}

// randomPound is a valid one.
func randomPound(x *rand.Rand) api.Pound { return randomPoundOf(x, x.IntN(api.MaxManors)) }

func randomPoundOf(x *rand.Rand, me int) api.Pound {
	p := api.Pound{Me: me}
	for range x.IntN(60) {
		if y := randomEntry(x, p.Journal); retoldMayBe(p.Me, p.Journal, y) {
			p.Journal = append(p.Journal, y)
		}
	}
	p.Firm = x.IntN(len(p.Journal) + 1)
	return p
}

// each has random pounds.
func each(times int, ask func(x *rand.Rand, p api.Pound)) {
	x := newRandom()
	for range times {
		ask(x, randomPound(x))
	}
}

// randomRider is one of any kind that a pound may hear, about a ride that it knows, or not.
func randomRider(x *rand.Rand, p api.Pound) api.Rider {
	r := rider(1+x.IntN(4), x.IntN(api.MaxManors), p.Me, randomBeast(x), 1+x.IntN(5))
	if rides := retoldRides(p.Journal); len(rides) > 0 && x.IntN(2) == 0 {
		ride := pick(x, rides...)
		r = rider(pick(x, api.RdReceipt, api.RdRefused), ride.To, p.Me, ride.Beast, ride.No)
	}
	return r
}

// one has a result and its error in one text.
func one[T any](x T, e api.Errno) string { return fmt.Sprintf("%+v %d", x, e) }

func want[T any](t *testing.T, name string, got T, e api.Errno, wanted T, wantedE api.Errno) {
	t.Helper()
	if g, w := one(got, e), one(wanted, wantedE); g != w {
		t.Errorf("%s: %s; want %s", name, g, w)
	}
}

func wantErrno(t *testing.T, name string, e, wanted api.Errno) {
	t.Helper()
	if e != wanted {
		t.Errorf("%s: %d; want %d", name, e, wanted)
	}
}

// pair has two results as one.
type pair[A, B any] struct {
	A A
	B B
}

func two[A, B any](a A, b B, e api.Errno) (pair[A, B], api.Errno) { return pair[A, B]{a, b}, e }

// badEntries are not valid.
func badEntries() []api.Entry {
	l := []api.Entry{{}, en(api.EnPound, 7, 0, 1), en(api.EnPound, 7, 1, 0), en(api.EnRelease, 7, 0, 1), en(api.EnRelease, 7, 5, 0), en(api.EnPound, 7, -1, 0), en(api.EnRelease, 7, 0, -1)}
	for _, kind := range append(outside(api.EnPound, api.EnRefuse), 9, 10) {
		l = append(l, en(kind, 7), en(kind, 7, 1, 1))
	}
	for _, beast := range outside(1, api.MaxBeast) {
		l = append(l, en(api.EnPound, beast), en(api.EnRelease, beast))
	}
	for kind := api.EnSend; kind <= api.EnRefuse; kind++ {
		l = append(l, en(kind, 7))
		for _, beast := range outside(1, api.MaxBeast) {
			l = append(l, en(kind, beast, 1, 1))
		}
		for _, other := range outside(0, 5) {
			l = append(l, en(kind, 7, other, 1))
		}
		for _, no := range outside(1, 200) {
			l = append(l, en(kind, 7, 1, no))
		}
	}
	return l
}

// wrongEntries are valid, but may not be behind the journal of busy's pound.
func wrongEntries() []api.Entry {
	return []api.Entry{
		en(api.EnPound, 7), en(api.EnPound, 8), en(api.EnPound, 9), en(api.EnPound, 10),
		en(api.EnRelease, 8), en(api.EnRelease, 9), en(api.EnRelease, 11), en(api.EnRelease, 1),
		en(api.EnSend, 7, 2, 3), en(api.EnSend, 7, 1, 2), en(api.EnSend, 7, 1, 4), en(api.EnSend, 7, 1, 1), en(api.EnSend, 8, 1, 3), en(api.EnSend, 9, 3, 3), en(api.EnSend, 11, 1, 3),
		en(api.EnCall, 9, 3, 2), en(api.EnCall, 8, 3, 1), en(api.EnCall, 8, 2, 1), en(api.EnCall, 7, 1, 1), en(api.EnCall, 8, 1, 2), en(api.EnCall, 8, 1, 3), en(api.EnCall, 10, 4, 5), en(api.EnCall, 7, 1, 3),
		en(api.EnDone, 8, 3, 1), en(api.EnDone, 8, 1, 2), en(api.EnDone, 9, 1, 1), en(api.EnDone, 9, 3, 3), en(api.EnDone, 10, 4, 5), en(api.EnDone, 8, 2, 1), en(api.EnDone, 7, 1, 1),
		en(api.EnBack, 8, 1, 1), en(api.EnBack, 9, 1, 2), en(api.EnBack, 9, 2, 2), en(api.EnBack, 8, 3, 2), en(api.EnBack, 9, 3, 1), en(api.EnBack, 11, 4, 6), en(api.EnBack, 9, 3, 3),
		en(api.EnTake, 12, 2, 7), en(api.EnTake, 12, 4, 5), en(api.EnTake, 10, 4, 5), en(api.EnTake, 11, 4, 6), en(api.EnTake, 7, 4, 7), en(api.EnTake, 8, 4, 7), en(api.EnTake, 9, 3, 7), en(api.EnTake, 10, 4, 7),
		en(api.EnRefuse, 12, 2, 7), en(api.EnRefuse, 12, 4, 5), en(api.EnRefuse, 10, 4, 5), en(api.EnRefuse, 11, 4, 6),
	}
}

// rightEntries may be behind the journal of busy's pound.
func rightEntries() []api.Entry {
	return []api.Entry{
		en(api.EnPound, 1), en(api.EnPound, 11), en(api.EnPound, 9999), en(api.EnRelease, 7), en(api.EnRelease, 10),
		en(api.EnSend, 7, 0, 3), en(api.EnSend, 7, 5, 3), en(api.EnSend, 10, 4, 3), en(api.EnCall, 8, 1, 1), en(api.EnDone, 8, 1, 1), en(api.EnDone, 9, 3, 2), en(api.EnBack, 9, 3, 2),
		en(api.EnTake, 1, 4, 7), en(api.EnTake, 11, 4, 4), en(api.EnTake, 12, 1, 1), en(api.EnTake, 12, 3, 5), en(api.EnTake, 12, 0, 200),
		en(api.EnRefuse, 1, 4, 7), en(api.EnRefuse, 7, 4, 4), en(api.EnRefuse, 8, 1, 1), en(api.EnRefuse, 9, 3, 2), en(api.EnRefuse, 12, 5, 200),
	}
}

// badPounds are not valid.
func badPounds() []api.Pound {
	var l []api.Pound
	for _, me := range outside(0, 5) {
		l = append(l, api.Pound{Me: me}, changed(busy(), func(p *api.Pound) { p.Me = me }))
	}
	for _, firm := range outside(0, 8) {
		l = append(l, changed(busy(), func(p *api.Pound) { p.Firm = firm }))
	}
	l = append(l, api.Pound{Firm: 1}, api.Pound{Firm: -1}, filled(busy(), 201), filled(api.Pound{}, 201), filled(api.Pound{}, 10000))
	for _, x := range slices.Concat(badEntries(), wrongEntries()) {
		l = append(l, with(busy(), x))
	}
	for _, x := range badEntries() {
		l = append(l, changed(busy(), func(p *api.Pound) { p.Journal[0] = x }))
	}
	// 7 may be missing, and 9 need not be called back; all between them is needed by what is behind it.
	for i := 1; i < 5; i++ {
		l = append(l, changed(busy(), func(p *api.Pound) { p.Journal = slices.Delete(p.Journal, i, i+1) }))
	}
	return l
}

// badRiders are not valid.
func badRiders() []api.Rider {
	l := []api.Rider{{}, rider(api.RdOffer, 2, 2, 7, 1), rider(api.RdReceipt, 0, 0, 7, 1)}
	for _, kind := range outside(api.RdOffer, api.RdRefused) {
		l = append(l, rider(kind, 1, 2, 8, 1))
	}
	for _, manor := range outside(0, 5) {
		l = append(l, rider(api.RdOffer, manor, 2, 8, 1), rider(api.RdReceipt, manor, 2, 8, 1), rider(api.RdOffer, 1, manor, 8, 1))
	}
	for _, beast := range outside(1, api.MaxBeast) {
		l = append(l, rider(api.RdRecall, 1, 2, beast, 1))
	}
	for _, no := range outside(1, 200) {
		l = append(l, rider(api.RdRefused, 1, 2, 8, no))
	}
	return l
}

// manyPounds are those of three manors: 8 is on its way from 2 to 1, which has not taken it; 9 has come from 2 to 3; 7 and 10 are with 2, 20 with 1.
func manyPounds() []api.Pound {
	return []api.Pound{poundOf(1, 0, en(api.EnPound, 20)), busy(), poundOf(3, 1, en(api.EnTake, 9, 2, 2))}
}

// badLists are no pounds.
func badLists() [][]api.Pound {
	var seven []api.Pound
	for me := range 7 {
		seven = append(seven, api.Pound{Me: me})
	}
	l := [][]api.Pound{seven, make([]api.Pound, 100), {{Me: 1}, {Me: 0}}, {{Me: 1}, {Me: 1}}, {{Me: 0}, {Me: 2}, {Me: 1}}, {{Me: 0}, {Me: 2}, {Me: 2}}, {busy(), busy()}}
	for _, bad := range badPounds() {
		l = append(l, []api.Pound{bad}, []api.Pound{{Me: 0}, bad}, []api.Pound{bad, {Me: 5}})
	}
	return l
}

// wantPound wants a valid pound with all that was written of another one.
func wantPound(t *testing.T, name string, was, p api.Pound) {
	t.Helper()
	wantErrno(t, name, march.Check(p), api.OK)
	if p.Me != was.Me || p.Firm < was.Firm || len(p.Journal) < was.Firm || !slices.Equal(p.Journal[:was.Firm], was.Journal[:was.Firm]) {
		t.Errorf("%s: what was written does not stay: %v; %v", name, was, p)
	}
}
