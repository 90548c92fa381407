package fine_test

import (
	"fmt"
	"math"
	"math/rand/v2"
	"slices"
	"testing"

	"pinfold/api"
	"pinfold/fine"
)

// changed is a value with a change.
func changed[T any](x T, change func(x *T)) T {
	change(&x)
	return x
}

// outside are numbers just beyond limits, and far from them.
func outside(lo, hi int) []int { return []int{lo - 1, hi + 1, math.MinInt, math.MaxInt} }

// spoilt has a value for each number that a field of it must not be.
func spoilt[T any](x T, of func(x *T) *int, bad ...int) []T {
	var l []T
	for _, n := range bad {
		l = append(l, changed(x, func(x *T) { *of(x) = n }))
	}
	return l
}

// fullTariff has the greatest numbers that a tariff may have.
func fullTariff() api.Tariff {
	t := fullAccount().Tariffs[api.MaxTariffs-1]
	t.Hayward, t.Driver = 60, 0
	return t
}

// badTariffs are not valid.
func badTariffs() []api.Tariff {
	t := fullTariff()
	l := slices.Concat(
		spoilt(t, func(t *api.Tariff) *int { return &t.From }, outside(0, api.MaxDay)...),
		spoilt(t, func(t *api.Tariff) *int { return &t.Feed }, outside(0, api.MaxPence)...),
		spoilt(t, func(t *api.Tariff) *int { return &t.Hayward }, outside(0, 60)...),
		spoilt(t, func(t *api.Tariff) *int { return &t.Driver }, -1, 1, math.MaxInt, math.MinInt),
		spoilt(t, func(t *api.Tariff) *int { return &t.Head[0] }, 1, -1),
		spoilt(t, func(t *api.Tariff) *int { return &t.Daily[0] }, 1, -1),
	)
	for sort := 1; sort <= api.MaxSort; sort++ {
		l = append(l, spoilt(t, func(t *api.Tariff) *int { return &t.Head[sort] }, outside(0, api.MaxPence)...)...)
		l = append(l, spoilt(t, func(t *api.Tariff) *int { return &t.Daily[sort] }, outside(0, api.MaxPence)...)...)
	}
	for _, shares := range [][2]int{{0, 61}, {61, 0}, {30, 31}, {-1, 61}, {61, -1}, {math.MaxInt, math.MaxInt}, {math.MinInt, math.MinInt}, {math.MaxInt, math.MinInt}} {
		t.Hayward, t.Driver = shares[0], shares[1]
		l = append(l, t)
	}
	return l
}

// P6.1: tariffs, at their limits and one beyond them.
func TestCheckTariff(t *testing.T) {
	most := fullTariff()
	for _, x := range []api.Tariff{{}, most, changed(most, func(t *api.Tariff) { t.Hayward, t.Driver = 0, 60 }),
		changed(most, func(t *api.Tariff) { t.Hayward, t.Driver = 29, 31 }), {From: api.MaxDay}, {Head: api.Rates{1: 1}}, {Daily: api.Rates{9: api.MaxPence}}} {
		wantErrno(t, fmt.Sprint(x), fine.CheckTariff(x), api.OK)
	}
	for _, x := range badTariffs() {
		wantErrno(t, fmt.Sprint(x), fine.CheckTariff(x), api.ErrTariff)
	}
}

// fullStay has the greatest numbers that a stay may have.
func fullStay() api.Held {
	return api.Held{Source: api.MaxSource, Beast: api.MaxBeast, Sort: api.MaxSort, Eats: api.MaxFodder, Worth: api.MaxValue, Driver: api.MaxOwner,
		Day: api.MaxDay, Known: api.MaxDay - 1, Until: api.MaxDay}
}

// badStays are not valid.
func badStays() []api.Held {
	s := fullStay()
	l := slices.Concat(
		spoilt(s, func(s *api.Held) *int { return &s.Source }, outside(1, api.MaxSource)...),
		spoilt(s, func(s *api.Held) *int { return &s.Beast }, outside(1, api.MaxBeast)...),
		spoilt(s, func(s *api.Held) *int { return &s.Sort }, outside(1, api.MaxSort)...),
		spoilt(s, func(s *api.Held) *int { return &s.Eats }, outside(0, api.MaxFodder)...),
		spoilt(s, func(s *api.Held) *int { return &s.Worth }, outside(0, api.MaxValue)...),
		spoilt(s, func(s *api.Held) *int { return &s.Driver }, outside(0, api.MaxOwner)...),
		spoilt(s, func(s *api.Held) *int { return &s.Day }, outside(0, api.MaxDay)...),
	)
	for _, times := range badTimes() {
		l = append(l, changed(s, func(s *api.Held) { s.Known, s.Until = times[0], times[1] }))
	}
	return l
}

// times are all that Known and Until may be.
func times() [][2]int {
	return [][2]int{{0, 0}, {0, 1}, {5, 6}, {5, 0}, {0, api.MaxDay}, {api.MaxDay, 0}, {api.MaxDay - 1, api.MaxDay}}
}

// badTimes are what Known and Until may not be.
func badTimes() [][2]int {
	return [][2]int{{-1, 0}, {-1, 5}, {5, 5}, {5, 4}, {5, 1}, {5, -1}, {0, -1}, {api.MaxDay, api.MaxDay}, {api.MaxDay, api.MaxDay + 1},
		{5, api.MaxDay + 1}, {api.MaxDay + 1, 0}, {api.MaxDay + 1, api.MaxDay + 2}, {math.MaxInt, 0}, {math.MaxInt, math.MinInt}, {0, math.MaxInt}, {math.MinInt, 0}}
}

// P6.1: stays, at their limits and one beyond them.
func TestCheckHeld(t *testing.T) {
	least := api.Held{Source: 1, Beast: 1, Sort: 1}
	for _, s := range []api.Held{least, fullStay(), example().Stays[0]} {
		for _, times := range times() {
			s.Known, s.Until = times[0], times[1]
			wantErrno(t, fmt.Sprint(s), fine.CheckHeld(s), api.OK)
		}
	}
	for _, s := range badStays() {
		wantErrno(t, fmt.Sprint(s), fine.CheckHeld(s), api.ErrHeld)
	}
}

// badNotes are not valid.
func badNotes() []api.Note {
	n := api.Note{Source: api.MaxSource, Stay: api.MaxSource, Kind: api.Judged, Owner: api.MaxOwner, Day: api.MaxDay, Known: api.MaxDay - 1, Until: api.MaxDay}
	l := slices.Concat(
		spoilt(n, func(n *api.Note) *int { return &n.Source }, outside(1, api.MaxSource)...),
		spoilt(n, func(n *api.Note) *int { return &n.Stay }, outside(1, api.MaxSource)...),
		spoilt(n, func(n *api.Note) *int { return &n.Kind }, outside(1, 3)...),
		spoilt(n, func(n *api.Note) *int { return &n.Owner }, outside(1, api.MaxOwner)...),
		spoilt(n, func(n *api.Note) *int { return &n.Day }, outside(0, api.MaxDay)...),
	)
	for _, kind := range []int{0, 4} {
		l = append(l, changed(n, func(n *api.Note) { n.Kind, n.Owner = kind, 0 }))
	}
	for _, times := range badTimes() {
		l = append(l, changed(n, func(n *api.Note) { n.Known, n.Until = times[0], times[1] }))
	}
	claim := changed(n, func(n *api.Note) { n.Kind = api.Claimed })
	l = append(l, spoilt(claim, func(n *api.Note) *int { return &n.Owner }, outside(1, api.MaxOwner)...)...)
	freed := changed(n, func(n *api.Note) { n.Kind = api.Freed })
	return append(l, spoilt(freed, func(n *api.Note) *int { return &n.Owner }, -1, 1, api.MaxOwner)...)
}

// P6.1: notes, at their limits and one beyond them.
func TestCheckNote(t *testing.T) {
	for _, n := range []api.Note{
		{Source: 1, Stay: 1, Kind: api.Claimed, Owner: 1}, {Source: 1, Stay: 1, Kind: api.Judged, Owner: 1}, {Source: 1, Stay: 1, Kind: api.Freed},
		{Source: api.MaxSource, Stay: api.MaxSource, Kind: api.Claimed, Owner: api.MaxOwner, Day: api.MaxDay},
		{Source: api.MaxSource, Stay: 1, Kind: api.Judged, Owner: api.MaxOwner, Day: api.MaxDay},
	} {
		for _, times := range times() {
			n.Known, n.Until = times[0], times[1]
			wantErrno(t, fmt.Sprint(n), fine.CheckNote(n), api.OK)
		}
	}
	for _, n := range badNotes() {
		wantErrno(t, fmt.Sprint(n), fine.CheckNote(n), api.ErrNote)
	}
}

// badAccounts are not valid: each has one list that may not be.
func badAccounts() []api.Account {
	var l []api.Account
	change := func(f func(p *api.Account)) { l = append(l, changed(fullAccount(), f)) }
	for _, t := range badTariffs() {
		change(func(p *api.Account) { p.Tariffs[0] = t })
	}
	for _, s := range badStays() {
		change(func(p *api.Account) { p.Stays[api.MaxHeld-1] = s })
	}
	for _, n := range badNotes() {
		change(func(p *api.Account) { p.Notes[api.MaxNotes-1] = n })
	}
	change(func(p *api.Account) { p.Tariffs[1].From = p.Tariffs[2].From })
	change(func(p *api.Account) { p.Tariffs[0], p.Tariffs[1] = p.Tariffs[1], p.Tariffs[0] })
	change(func(p *api.Account) { p.Tariffs[1].From = 0 })
	change(func(p *api.Account) { p.Stays[58].Source = p.Stays[59].Source })
	change(func(p *api.Account) { p.Stays[0], p.Stays[1] = p.Stays[1], p.Stays[0] })
	change(func(p *api.Account) { p.Notes[58].Source = p.Notes[59].Source })
	change(func(p *api.Account) { p.Notes[0], p.Notes[1] = p.Notes[1], p.Notes[0] })
	change(func(p *api.Account) {
		p.Stays = append(p.Stays, changed(p.Stays[59], func(s *api.Held) { s.Source++ }))
	})
	change(func(p *api.Account) {
		p.Notes = slices.Insert(p.Notes, 0, changed(p.Notes[0], func(n *api.Note) { n.Source-- }))
	})
	change(func(p *api.Account) {
		p.Tariffs = append(p.Tariffs, api.Tariff{})
		for i := range p.Tariffs {
			p.Tariffs[i].From = i
		}
	})
	return l
}

// P6.1: accounts, at their limits and one beyond them.
func TestCheck(t *testing.T) {
	same := example()
	same.Notes[0].Source, same.Notes[0].Stay = 1, 99 // as the stay's, and on a stay that there is none of
	for _, p := range []api.Account{{}, {Tariffs: []api.Tariff{}, Stays: []api.Held{}, Notes: []api.Note{}}, example(), fullAccount(), same} {
		wantErrno(t, fmt.Sprint(p), fine.Check(p), api.OK)
	}
	for _, p := range badAccounts() {
		wantErrno(t, fmt.Sprint(p), fine.Check(p), api.ErrAccount)
	}
}

// P6.1: Noted puts a note at its place.
func TestNoted(t *testing.T) {
	each(300, func(x *rand.Rand, p api.Account, _ int) {
		n := randomNote(x, p, 1+x.IntN(20))
		got, e := fine.Noted(p, n)
		if slices.ContainsFunc(p.Notes, func(m api.Note) bool { return m.Source == n.Source }) {
			want(t, "Noted", got, e, api.Account{}, api.ErrNote)
			return
		}
		wanted := cloneAccount(p)
		wanted.Notes = append(wanted.Notes, n)
		slices.SortFunc(wanted.Notes, func(a, b api.Note) int { return a.Source - b.Source })
		want(t, "Noted", got, e, wanted, api.OK)
	})
}

// P6.1: a note more than there may be; one that is not valid, or has the Source of another one, goes ahead.
func TestNotedTooMany(t *testing.T) {
	p := fullAccount()
	n := api.Note{Source: 1, Stay: 1, Kind: api.Freed}
	got, e := fine.Noted(p, n)
	want(t, "Noted", got, e, api.Account{}, api.ErrLong)
	for _, n := range append(badNotes(), p.Notes[0], p.Notes[59], changed(n, func(n *api.Note) { n.Source = p.Notes[30].Source })) {
		got, e := fine.Noted(p, n)
		want(t, "Noted", got, e, api.Account{}, api.ErrNote)
	}
	last := p.Notes[59]
	p.Notes = p.Notes[:59]
	got, e = fine.Noted(p, last)
	want(t, "Noted", got, e, fullAccount(), api.OK)
}

// P6.1: the tariff in force is the last one that began.
func TestInForce(t *testing.T) {
	p := api.Account{Tariffs: []api.Tariff{{From: 5, Feed: 1}, {From: 6, Feed: 2}, {From: 10, Feed: 3}}}
	for day, feed := range map[int]int{5: 1, 6: 2, 9: 2, 10: 3, 11: 3, api.MaxDay: 3} {
		got, e := fine.InForce(p, day)
		want(t, "InForce", got.Feed, e, feed, api.OK)
	}
	for _, day := range []int{0, 4} {
		got, e := fine.InForce(p, day)
		want(t, "InForce", got, e, api.Tariff{}, api.ErrNoToll)
		got, e = fine.InForce(api.Account{}, day)
		want(t, "InForce", got, e, api.Tariff{}, api.ErrNoToll)
	}
	each(300, func(_ *rand.Rand, p api.Account, day int) {
		wanted, wantedE := tariffOn(p, day), api.OK
		if len(p.Tariffs) == 0 || p.Tariffs[0].From > day {
			wantedE = api.ErrNoToll
		}
		got, e := fine.InForce(p, day)
		want(t, "InForce", got, e, wanted, wantedE)
	})
}
