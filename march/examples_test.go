package march_test

import (
	"testing"

	"pinfold/api"
	"pinfold/march"
)

// sentFirst is the pound A of the chapter's examples behind Impound, Sync and Send, and the pound B.
func sentFirst(t *testing.T) (a, b api.Pound) {
	t.Helper()
	a, e := march.New(0)
	wantErrno(t, "New", e, api.OK)
	b, e = march.New(1)
	wantErrno(t, "New", e, api.OK)
	a, e = march.Impound(a, 7)
	wantErrno(t, "Impound", e, api.OK)
	a, e = march.Sync(a)
	wantErrno(t, "Sync", e, api.OK)
	a, ride, e := march.Send(a, 7, 1)
	want(t, "Send", ride, e, api.Ride{No: 1, To: 1, Beast: 7}, api.OK)
	want(t, "Send", a, e, poundOf(0, 1, en(api.EnPound, 7), en(api.EnSend, 7, 1, 1)), api.OK)
	return a, b
}

func wantOut(t *testing.T, p api.Pound, to int, wanted ...api.Rider) {
	t.Helper()
	riders, e := march.Out(p, to)
	want(t, "Out", riders, e, wanted, api.OK)
}

func wantHere(t *testing.T, p api.Pound, wanted ...int) {
	t.Helper()
	beasts, e := march.Here(p)
	want(t, "Here", beasts, e, wanted, api.OK)
}

func wantRides(t *testing.T, p api.Pound, wanted ...api.Ride) {
	t.Helper()
	rides, e := march.Rides(p)
	want(t, "Rides", rides, e, wanted, api.OK)
}

// hears is a pound behind a rider, of which it puts these entries behind its journal.
func hears(t *testing.T, p api.Pound, r api.Rider, entries ...api.Entry) api.Pound {
	t.Helper()
	heard, e := march.Hear(p, r)
	want(t, "Hear", heard, e, with(p, entries...), api.OK)
	return heard
}

func synced(t *testing.T, p api.Pound) api.Pound {
	t.Helper()
	p, e := march.Sync(p)
	wantErrno(t, "Sync", e, api.OK)
	return p
}

// P9.1: the rows of the chapter's examples, up to the receipt.
func TestExampleOfAnArrival(t *testing.T) {
	a, b := sentFirst(t)
	wantHere(t, a)
	wantRides(t, a, api.Ride{No: 1, To: 1, Beast: 7})
	wantOut(t, a, 1)
	a = synced(t, a)
	offer := rider(api.RdOffer, 0, 1, 7, 1)
	wantOut(t, a, 1, offer)
	b = hears(t, b, offer, en(api.EnTake, 7, 0, 1))
	wantHere(t, b, 7)
	wantOut(t, b, 0)
	manors, e := march.Where([]api.Pound{a, b}, 7)
	want(t, "Where", manors, e, []int{1}, api.OK)
	rides, e := march.Riding([]api.Pound{a, b}, 7)
	want(t, "Riding", rides, e, nil, api.OK)
	lost, e := march.Crash(b, 0)
	wantErrno(t, "Crash", e, api.OK)
	wantHere(t, lost)
	hears(t, lost, offer, en(api.EnTake, 7, 0, 1))
	b = synced(t, b)
	receipt := rider(api.RdReceipt, 1, 0, 7, 1)
	wantOut(t, b, 0, receipt)
	a = hears(t, a, receipt, en(api.EnDone, 7, 1, 1))
	wantRides(t, a)
}

// P9.1: the rows of the chapter's examples on a ride that is called back.
func TestExampleOfARecall(t *testing.T) {
	a, b := sentFirst(t)
	a = synced(t, a)
	a, e := march.Call(a, 1)
	wantErrno(t, "Call", e, api.OK)
	a = synced(t, a)
	recall := rider(api.RdRecall, 0, 1, 7, 1)
	wantOut(t, a, 1, recall)
	b = synced(t, hears(t, b, recall, en(api.EnRefuse, 7, 0, 1)))
	refused := rider(api.RdRefused, 1, 0, 7, 1)
	wantOut(t, b, 0, refused)
	a = hears(t, a, refused, en(api.EnBack, 7, 1, 1))
	wantHere(t, a, 7)
	hears(t, b, rider(api.RdOffer, 0, 1, 7, 1))
}

// P9.1: the rows of the chapter's examples on errors and texts.
func TestExamplesOfErrorsAndTexts(t *testing.T) {
	a, b := sentFirst(t)
	p, e := march.Impound(a, 7)
	want(t, "Impound", p, e, api.Pound{}, api.ErrHere)
	p, e = march.Release(b, 8)
	want(t, "Release", p, e, api.Pound{}, api.ErrGone)
	text, e := march.Print(a)
	want(t, "Print", text, e, "pound 0 1\npound 7\nsend 7 1 1\n", api.OK)
}
