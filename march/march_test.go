package march_test

import (
	"fmt"
	"math"
	"math/rand/v2"
	"slices"
	"testing"

	"pinfold/api"
	"pinfold/march"
)

// beastsAround are those that a test's pounds may have, and one that none has.
func beastsAround() []int { return []int{1, 2, 3, 4, 9999, 55} }

// P9.1, P9.2: Impound and Release.
func TestImpoundAndRelease(t *testing.T) {
	each(300, func(_ *rand.Rand, p api.Pound) {
		for _, beast := range beastsAround() {
			name := fmt.Sprint(" ", p, beast)
			got, e := march.Impound(p, beast)
			wanted, wantedE := retoldImpound(p, beast)
			want(t, "Impound"+name, got, e, wanted, wantedE)
			if e == api.OK {
				wantPound(t, "Impound"+name, p, got)
			}
			got, e = march.Release(p, beast)
			wanted, wantedE = retoldRelease(p, beast)
			want(t, "Release"+name, got, e, wanted, wantedE)
			if e == api.OK {
				wantPound(t, "Release"+name, p, got)
			}
		}
	})
	for beast, wanted := range map[int]api.Errno{7: api.ErrHere, 8: api.ErrHere, 9: api.ErrHere, 10: api.ErrHere, 11: api.OK, 1: api.OK, 9999: api.OK} {
		_, e := march.Impound(busy(), beast)
		wantErrno(t, fmt.Sprint("Impound ", beast), e, wanted)
	}
	for beast, wanted := range map[int]api.Errno{7: api.OK, 8: api.ErrGone, 9: api.ErrGone, 10: api.OK, 11: api.ErrGone, 1: api.ErrGone, 9999: api.ErrGone} {
		_, e := march.Release(busy(), beast)
		wantErrno(t, fmt.Sprint("Release ", beast), e, wanted)
	}
}

// P9.1, P9.2: Send, and the ride that it returns.
func TestSend(t *testing.T) {
	each(200, func(_ *rand.Rand, p api.Pound) {
		for _, beast := range beastsAround() {
			for to := range api.MaxManors {
				name := fmt.Sprint("Send ", p, beast, to)
				got, e := two(march.Send(p, beast, to))
				wanted, wantedE := retoldSend(p, beast, to)
				want(t, name, got, e, wanted, wantedE)
				if e == api.OK {
					wantPound(t, name, p, got.A)
				}
			}
		}
	})
	got, e := two(march.Send(busy(), 10, 4))
	want(t, "Send", got, e, pair[api.Pound, api.Ride]{with(busy(), en(api.EnSend, 10, 4, 3)), api.Ride{No: 3, To: 4, Beast: 10}}, api.OK)
}

// P9.1, P9.2: Call.
func TestCall(t *testing.T) {
	each(400, func(_ *rand.Rand, p api.Pound) {
		for _, no := range []int{math.MinInt, -1, 0, 1, 2, 3, 4, 5, 6, 7, 8, 9, 10, 200, 201, math.MaxInt} {
			name := fmt.Sprint("Call ", p, no)
			got, e := march.Call(p, no)
			wanted, wantedE := retoldCall(p, no)
			want(t, name, got, e, wanted, wantedE)
			if e == api.OK {
				wantPound(t, name, p, got)
			}
		}
	})
	got, e := march.Call(busy(), 1)
	want(t, "Call", got, e, with(busy(), en(api.EnCall, 8, 1, 1)), api.OK)
	for _, no := range []int{2, 3, 5, 6} {
		got, e := march.Call(busy(), no)
		want(t, fmt.Sprint("Call ", no), got, e, api.Pound{}, api.ErrRide)
	}
	for _, end := range []api.Entry{en(api.EnDone, 8, 1, 1), en(api.EnCall, 8, 1, 1)} {
		got, e := march.Call(with(busy(), end), 1)
		want(t, "Call of a ride that has ended, or was called back", got, e, api.Pound{}, api.ErrRide)
	}
}

// P9.1, P9.2, P9.5: each kind of rider, heard once and once more.
func TestHear(t *testing.T) {
	heard := map[int]int{}
	each(1500, func(x *rand.Rand, p api.Pound) {
		for range 6 {
			r := randomRider(x, p)
			name := fmt.Sprint("Hear ", p, r)
			if r.From == p.Me {
				got, e := march.Hear(p, r)
				want(t, name, got, e, api.Pound{}, api.ErrRider)
				continue
			}
			got, e := march.Hear(p, r)
			wanted, wantedE := retoldHear(p, r)
			want(t, name, got, e, wanted, wantedE)
			wantPound(t, name, p, got)
			heard[r.Kind] += len(got.Journal) - len(p.Journal)
			again, e := march.Hear(got, r)
			want(t, name+" again", again, e, got, api.OK)
		}
	})
	for kind := api.RdOffer; kind <= api.RdRefused; kind++ {
		if heard[kind] < 100 {
			t.Error("too few riders say something: ", heard)
		}
	}
}

// P9.1: what each rider says to busy's pound, and that a rider of another beast, manor or number says nothing.
func TestHearOfEachKind(t *testing.T) {
	for r, x := range map[api.Rider]api.Entry{
		rider(api.RdOffer, 4, 2, 12, 7):    en(api.EnTake, 12, 4, 7),
		rider(api.RdOffer, 0, 2, 11, 200):  en(api.EnTake, 11, 0, 200),
		rider(api.RdReceipt, 1, 2, 8, 1):   en(api.EnDone, 8, 1, 1),
		rider(api.RdReceipt, 3, 2, 9, 2):   en(api.EnDone, 9, 3, 2),
		rider(api.RdRecall, 4, 2, 12, 7):   en(api.EnRefuse, 12, 4, 7),
		rider(api.RdRecall, 4, 2, 7, 7):    en(api.EnRefuse, 7, 4, 7),
		rider(api.RdRecall, 1, 2, 8, 1):    en(api.EnRefuse, 8, 1, 1),
		rider(api.RdRefused, 3, 2, 9, 2):   en(api.EnBack, 9, 3, 2),
		rider(api.RdOffer, 4, 2, 10, 5):    {},
		rider(api.RdOffer, 4, 2, 12, 6):    {},
		rider(api.RdOffer, 4, 2, 7, 7):     {},
		rider(api.RdOffer, 1, 2, 8, 1):     {},
		rider(api.RdReceipt, 1, 2, 9, 1):   {},
		rider(api.RdReceipt, 3, 2, 8, 1):   {},
		rider(api.RdReceipt, 1, 2, 8, 2):   {},
		rider(api.RdReceipt, 4, 2, 10, 5):  {},
		rider(api.RdRecall, 4, 2, 10, 5):   {},
		rider(api.RdRecall, 4, 2, 11, 6):   {},
		rider(api.RdRecall, 4, 2, 12, 5):   {},
		rider(api.RdRefused, 1, 2, 8, 1):   {},
		rider(api.RdRefused, 1, 2, 9, 2):   {},
		rider(api.RdRefused, 3, 2, 8, 2):   {},
		rider(api.RdRefused, 3, 2, 9, 1):   {},
		rider(api.RdRefused, 3, 2, 9, 200): {},
	} {
		p, e := march.Hear(busy(), r)
		wanted := busy()
		if x != (api.Entry{}) {
			wanted = with(busy(), x)
		}
		want(t, fmt.Sprint("Hear ", r), p, e, wanted, api.OK)
	}
	for _, to := range []int{0, 1, 4, 5} {
		p, e := march.Hear(busy(), rider(api.RdOffer, 3, to, 12, 7))
		want(t, "Hear of another manor's rider", p, e, api.Pound{}, api.ErrRider)
	}
}

// P9.1: a journal that is full takes no more entries, behind all other errors; what changes nothing can be heard.
func TestFullJournals(t *testing.T) {
	almost := filled(busy(), 199)
	almost.Journal = append(almost.Journal[:197:197], en(api.EnPound, 30), en(api.EnPound, 31))
	brim := with(almost, en(api.EnPound, 32))
	wantErrno(t, "Check", march.Check(brim), api.OK)
	for name, put := range map[string]func(p api.Pound) (api.Pound, api.Errno){
		"Impound":         func(p api.Pound) (api.Pound, api.Errno) { return march.Impound(p, 33) },
		"Release":         func(p api.Pound) (api.Pound, api.Errno) { return march.Release(p, 7) },
		"Send":            func(p api.Pound) (api.Pound, api.Errno) { q, _, e := march.Send(p, 7, 1); return q, e },
		"Call":            func(p api.Pound) (api.Pound, api.Errno) { return march.Call(p, 1) },
		"Hear an offer":   func(p api.Pound) (api.Pound, api.Errno) { return march.Hear(p, rider(1, 4, 2, 12, 7)) },
		"Hear a receipt":  func(p api.Pound) (api.Pound, api.Errno) { return march.Hear(p, rider(2, 1, 2, 8, 1)) },
		"Hear a recall":   func(p api.Pound) (api.Pound, api.Errno) { return march.Hear(p, rider(3, 4, 2, 12, 7)) },
		"Hear of refusal": func(p api.Pound) (api.Pound, api.Errno) { return march.Hear(p, rider(4, 3, 2, 9, 2)) },
	} {
		p, e := put(almost)
		if e != api.OK || len(p.Journal) != 200 {
			t.Error(name, p, e)
		}
		wantPound(t, name, almost, p)
		p, e = put(brim)
		want(t, name, p, e, api.Pound{}, api.ErrLong)
	}
	for _, r := range []api.Rider{rider(1, 4, 2, 10, 5), rider(2, 1, 2, 9, 1), rider(3, 4, 2, 10, 5), rider(4, 1, 2, 8, 1)} {
		p, e := march.Hear(brim, r)
		want(t, fmt.Sprint("Hear ", r), p, e, brim, api.OK)
	}
	for _, p := range []api.Pound{brim, full()} {
		q, e := march.Sync(p)
		want(t, "Sync", q, e, changed(p, func(p *api.Pound) { p.Firm = 200 }), api.OK)
		q, e = march.Crash(p, 0)
		want(t, "Crash", q, e, poundOf(2, 6, p.Journal[:6]...), api.OK)
	}
}

// P9.1: a pound may send, and take, as many rides as its journal has room for.
func TestManyRides(t *testing.T) {
	p, q := api.Pound{Me: 0}, api.Pound{Me: 1}
	for no := 1; no <= 100; no++ {
		p, _ = march.Impound(p, no)
		sent, ride, e := march.Send(p, no, 1)
		want(t, "Send", ride, e, api.Ride{No: no, To: 1, Beast: no}, api.OK)
		p = sent
	}
	p, _ = march.Sync(p)
	riders, e := march.Out(p, 1)
	wantErrno(t, "Out", e, api.OK)
	for i, r := range riders {
		want(t, "Out", r, e, rider(api.RdOffer, 0, 1, i+1, i+1), api.OK)
		q, e = march.Hear(q, r)
		wantErrno(t, "Hear", e, api.OK)
	}
	if len(riders) != 100 || len(q.Journal) != 100 {
		t.Error(len(riders), len(q.Journal))
	}
	q, e = march.Hear(q, rider(api.RdOffer, 0, 1, 200, 200))
	wantErrno(t, "Hear", e, api.OK)
	knows, e := march.Knows(q, 0, 200)
	want(t, "Knows", knows, e, api.EnTake, api.OK)
}

// P9.1, P9.2: Sync writes all, and Crash keeps as many as the number says.
func TestSyncAndCrash(t *testing.T) {
	each(300, func(x *rand.Rand, p api.Pound) {
		got, e := march.Sync(p)
		want(t, fmt.Sprint("Sync ", p), got, e, poundOf(p.Me, len(p.Journal), p.Journal...), api.OK)
		wantPound(t, "Sync", p, got)
		again, e := march.Sync(got)
		want(t, "Sync again", again, e, got, api.OK)
		for _, keep := range []int{0, 1, 2, 3, -1, -2, x.IntN(1000), -x.IntN(1000), math.MaxInt, math.MinInt, len(p.Journal), len(p.Journal) - p.Firm} {
			name := fmt.Sprint("Crash ", p, keep)
			lost, e := march.Crash(p, keep)
			want(t, name, lost, e, retoldCrash(p, keep), api.OK)
			wantPound(t, name, p, lost)
			same, e := march.Crash(got, keep)
			want(t, name+" behind Sync", same, e, got, api.OK)
		}
	})
	for keep, firm := range map[int]int{0: 6, 1: 7, 2: 8, 3: 6, 4: 7, 5: 8, -1: 8, -2: 7, -3: 6, -4: 8, math.MinInt: 7, math.MaxInt: 7} {
		p, e := march.Crash(busy(), keep)
		want(t, fmt.Sprint("Crash ", keep), p, e, poundOf(2, firm, slices.Clone(busy().Journal[:firm])...), api.OK)
	}
}
