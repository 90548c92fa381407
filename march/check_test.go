package march_test

import (
	"fmt"
	"math/rand/v2"
	"slices"
	"testing"

	"pinfold/api"
	"pinfold/march"
)

// P9.1: entries that are valid, at all ends of what they may have.
func TestCheckEntry(t *testing.T) {
	for _, beast := range []int{1, 7, api.MaxBeast} {
		for _, kind := range []int{api.EnPound, api.EnRelease} {
			wantErrno(t, fmt.Sprint("CheckEntry ", kind, beast), march.CheckEntry(en(kind, beast)), api.OK)
		}
		for kind := api.EnSend; kind <= api.EnRefuse; kind++ {
			for _, other := range []int{0, 3, 5} {
				for _, no := range []int{1, 77, api.MaxJournal} {
					x := en(kind, beast, other, no)
					wantErrno(t, fmt.Sprint("CheckEntry ", x), march.CheckEntry(x), api.OK)
				}
			}
		}
	}
	for _, x := range badEntries() {
		wantErrno(t, fmt.Sprint("CheckEntry ", x), march.CheckEntry(x), api.ErrArg)
	}
}

// P9.1: all small entries are as the chapter tells it.
func TestCheckEntryOfAll(t *testing.T) {
	for kind := -1; kind < 11; kind++ {
		for beast := -1; beast < 3; beast++ {
			for other := -1; other < 8; other++ {
				for no := -1; no < 3; no++ {
					x := api.Entry{Kind: kind, Beast: beast, Other: other, No: no}
					wanted := api.ErrArg
					if retoldValidEntry(x) {
						wanted = api.OK
					}
					wantErrno(t, fmt.Sprint("CheckEntry ", x), march.CheckEntry(x), wanted)
				}
			}
		}
	}
}

// P9.1: riders that are valid, and what is none.
func TestCheckRider(t *testing.T) {
	for kind := api.RdOffer; kind <= api.RdRefused; kind++ {
		for from := range api.MaxManors {
			for to := range api.MaxManors {
				wanted := api.OK
				if from == to {
					wanted = api.ErrRider
				}
				for _, beast := range []int{1, api.MaxBeast} {
					for _, no := range []int{1, api.MaxJournal} {
						r := rider(kind, from, to, beast, no)
						wantErrno(t, fmt.Sprint("CheckRider ", r), march.CheckRider(r), wanted)
					}
				}
			}
		}
	}
	for _, r := range badRiders() {
		wantErrno(t, fmt.Sprint("CheckRider ", r), march.CheckRider(r), api.ErrRider)
	}
}

// P9.1: the pound of a manor has an empty journal.
func TestNew(t *testing.T) {
	for me := range api.MaxManors {
		p, e := march.New(me)
		want(t, "New", p, e, api.Pound{Me: me}, api.OK)
		wantErrno(t, "Check", march.Check(p), api.OK)
	}
	for _, me := range outside(0, 5) {
		p, e := march.New(me)
		want(t, "New", p, e, api.Pound{}, api.ErrManor)
	}
}

// P9.1: each kind of entry may be behind a journal just as the chapter says.
func TestCheckOfOneMoreEntry(t *testing.T) {
	for _, p := range []api.Pound{busy(), full(), filled(busy(), 199), filled(api.Pound{Me: 5}, 200), filled(api.Pound{}, 99)} {
		wantErrno(t, fmt.Sprint("Check ", p), march.Check(p), api.OK)
	}
	for _, x := range rightEntries() {
		wantErrno(t, fmt.Sprint("Check with ", x), march.Check(with(busy(), x)), api.OK)
	}
	for _, x := range wrongEntries() {
		wantErrno(t, fmt.Sprint("CheckEntry ", x), march.CheckEntry(x), api.OK)
		wantErrno(t, fmt.Sprint("Check with ", x), march.Check(with(busy(), x)), api.ErrJournal)
		wantErrno(t, fmt.Sprint("Check with more behind ", x), march.Check(with(busy(), x, en(api.EnPound, 77))), api.ErrJournal)
	}
	for i, p := range badPounds() {
		wantErrno(t, fmt.Sprintf("Check %d %.300v", i, p), march.Check(p), api.ErrJournal)
	}
	for firm := range 9 {
		wantErrno(t, fmt.Sprint("Check ", firm), march.Check(changed(busy(), func(p *api.Pound) { p.Firm = firm })), api.OK)
	}
}

// P9.1: a beast may come and go, and a ride may end, more than once in its way.
func TestCheckOfLongWays(t *testing.T) {
	a := []api.Entry{
		en(api.EnPound, 7), en(api.EnSend, 7, 1, 1), en(api.EnDone, 7, 1, 1), en(api.EnTake, 7, 1, 1), en(api.EnSend, 7, 1, 2), en(api.EnCall, 7, 1, 2), en(api.EnBack, 7, 1, 2),
		en(api.EnSend, 7, 2, 3), en(api.EnCall, 7, 2, 3), en(api.EnDone, 7, 2, 3), en(api.EnRefuse, 7, 2, 3), en(api.EnTake, 7, 2, 1), en(api.EnRelease, 7), en(api.EnPound, 7),
	}
	for n := range len(a) + 1 {
		wantErrno(t, fmt.Sprint("Check ", a[:n]), march.Check(poundOf(0, n, a[:n]...)), api.OK)
		for i := n; i < len(a); i++ {
			p := poundOf(0, n, append(slices.Clone(a[:n]), a[i])...)
			wantErrno(t, fmt.Sprint("Check ", p), march.Check(p), retoldCheck(p))
		}
		if n > 0 {
			p := poundOf(0, n, append(slices.Clone(a[:n]), a[n-1])...)
			wantErrno(t, fmt.Sprint("Check ", p), march.Check(p), api.ErrJournal)
		}
	}
}

// P9.1: random journals, and those in which something was changed, are valid just as the chapter tells it.
func TestCheckOfChangedPounds(t *testing.T) {
	valid, not := 0, 0
	each(600, func(x *rand.Rand, p api.Pound) {
		wantErrno(t, fmt.Sprint("Check ", p), march.Check(p), api.OK)
		for range 10 {
			q := changed(p, func(p *api.Pound) { spoil(x, p) })
			wantErrno(t, fmt.Sprint("Check ", q), march.Check(q), retoldCheck(q))
			if retoldValid(q) {
				valid++
			} else {
				not++
			}
		}
	})
	if valid < 500 || not < 500 {
		t.Error("too few of one kind: ", valid, not)
	}
}

// spoil changes anything in a pound.
func spoil(x *rand.Rand, p *api.Pound) {
	more := randomEntry(x, p.Journal)
	if len(p.Journal) == 0 {
		p.Journal = append(p.Journal, more)
		return
	}
	i := x.IntN(len(p.Journal))
	switch x.IntN(7) {
	case 0:
		p.Me = x.IntN(api.MaxManors)
	case 1:
		p.Journal = append(p.Journal, more)
	case 2:
		p.Journal[i] = more
	case 3:
		p.Journal = slices.Insert(p.Journal, i, more)
	case 4:
		p.Journal = slices.Delete(p.Journal, i, i+1)
		p.Firm = min(p.Firm, len(p.Journal))
	case 5:
		if i > 0 {
			p.Journal[i-1], p.Journal[i] = p.Journal[i], p.Journal[i-1]
		}
	case 6:
		y := &p.Journal[i]
		*pick(x, &y.Kind, &y.Beast, &y.Other, &y.No) += pick(x, -1, 1)
	}
}
