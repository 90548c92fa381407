package stint_test

import (
	"testing"

	"pinfold/api"
	"pinfold/stint"
)

// P2.1: pastures, at their limits and one beyond them.
func TestCheckPasture(t *testing.T) {
	for _, c := range []struct {
		p    api.Pasture
		want api.Errno
	}{
		{api.Pasture{Id: 1}, api.OK},
		{api.Pasture{Id: 99, Season: api.Range{Lo: 359, Hi: 359}}, api.OK},
		{api.Pasture{Id: 5, Season: api.Range{Lo: 300, Hi: 60}}, api.OK},
		{api.Pasture{}, api.ErrPasture},
		{api.Pasture{Id: -1}, api.ErrPasture},
		{api.Pasture{Id: 100}, api.ErrPasture},
		{api.Pasture{Id: 1, Season: api.Range{Lo: -1}}, api.ErrPasture},
		{api.Pasture{Id: 1, Season: api.Range{Lo: 360}}, api.ErrPasture},
		{api.Pasture{Id: 1, Season: api.Range{Hi: -1}}, api.ErrPasture},
		{api.Pasture{Id: 1, Season: api.Range{Hi: 360}}, api.ErrPasture},
	} {
		if e := stint.CheckPasture(c.p); e != c.want {
			t.Error(c, e)
		}
	}
}

// P2.1: byelaws, at their limits and one beyond them.
func TestCheckByelaw(t *testing.T) {
	most := [10]int{0, api.MaxParts, api.MaxParts, 0, 0, 0, 0, 0, 0, api.MaxParts}
	for _, c := range []struct {
		b    api.Byelaw
		want api.Errno
	}{
		{api.Byelaw{Source: 1, Pasture: 1}, api.OK},
		{api.Byelaw{Source: api.MaxSource, Pasture: 99, From: api.MaxDay, Parts: most}, api.OK},
		{api.Byelaw{Source: 0, Pasture: 1}, api.ErrByelaw},
		{api.Byelaw{Source: api.MaxSource + 1, Pasture: 1}, api.ErrByelaw},
		{api.Byelaw{Source: 1, Pasture: 0}, api.ErrByelaw},
		{api.Byelaw{Source: 1, Pasture: 100}, api.ErrByelaw},
		{api.Byelaw{Source: 1, Pasture: 1, From: -1}, api.ErrByelaw},
		{api.Byelaw{Source: 1, Pasture: 1, From: api.MaxDay + 1}, api.ErrByelaw},
		{api.Byelaw{Source: 1, Pasture: 1, Parts: [10]int{1}}, api.ErrByelaw},
		{api.Byelaw{Source: 1, Pasture: 1, Parts: [10]int{1: -1}}, api.ErrByelaw},
		{api.Byelaw{Source: 1, Pasture: 1, Parts: [10]int{9: -1}}, api.ErrByelaw},
		{api.Byelaw{Source: 1, Pasture: 1, Parts: [10]int{1: api.MaxParts + 1}}, api.ErrByelaw},
		{api.Byelaw{Source: 1, Pasture: 1, Parts: [10]int{9: api.MaxParts + 1}}, api.ErrByelaw},
	} {
		if e := stint.CheckByelaw(c.b); e != c.want {
			t.Error(c, e)
		}
	}
}

// limits are the numbers that a field of a deed may have; in no other kind than the named ones may it be anything but 0.
type limits struct {
	name   string
	field  func(d *api.Deed) *int
	lo, hi int
	named  []int
}

var fields = []limits{
	{"Day", func(d *api.Deed) *int { return &d.Day }, 0, 5, []int{1, 2, 3, 4, 5, 6, 7, 8}},
	{"Known", func(d *api.Deed) *int { return &d.Known }, 0, api.MaxDay, []int{0, 1, 2, 3, 4, 5, 6, 7, 8}},
	{"Holding", func(d *api.Deed) *int { return &d.Holding }, 1, api.MaxHolding, []int{1, 2, 3, 4, 5, 6}},
	{"To", func(d *api.Deed) *int { return &d.To }, 1, api.MaxHolding, []int{4, 5, 6}},
	{"Owner", func(d *api.Deed) *int { return &d.Owner }, 1, api.MaxOwner, []int{1, 3}},
	{"Pasture", func(d *api.Deed) *int { return &d.Pasture }, 1, 99, []int{2, 4, 6, 7, 8}},
	{"Parts", func(d *api.Deed) *int { return &d.Parts }, 1, api.MaxParts, []int{2, 4, 6}},
	{"Until", func(d *api.Deed) *int { return &d.Until }, 5, api.MaxDay, []int{6, 7, 8}},
	{"Manor", func(d *api.Deed) *int { return &d.At.Manor }, 0, 5, []int{1, 2, 3, 4, 5, 6, 7, 8}},
	{"No", func(d *api.Deed) *int { return &d.At.No }, 0, api.MaxNo, []int{1, 2, 3, 4, 5, 6, 7, 8}},
	{"Of.No", func(d *api.Deed) *int { return &d.Of.No }, 0, 9, []int{0}},
}

// goodDeeds has a deed of each kind, by kinds.
func goodDeeds() []api.Deed {
	l := []api.Deed{withdraw(3, 7), hold(20, 6, 5), right(20, 1, 60, 5), sell(20, 6, 5), split(20, 30, 1, 60, 5),
		join(20, 30, 5), let(20, 30, 1, 60, 5, 9), opened(1, 5, 9), closed(1, 5, 9)}
	for i := range l {
		l[i].At.No = 10
	}
	return l
}

// P2.1: each kind of deed has just its fields, in their limits; all others are 0.
func TestCheckDeed(t *testing.T) {
	for kind, good := range goodDeeds() {
		if e := stint.CheckDeed(good); e != api.OK || good.Kind != kind {
			t.Error(kind, good, e)
		}
		for _, f := range fields {
			checkField(t, good, f)
		}
	}
	for _, kind := range []int{-1, 9, 1 << 40} {
		if e := stint.CheckDeed(api.Deed{Kind: kind}); e != api.ErrDeed {
			t.Error(kind, e)
		}
	}
	if e := stint.CheckDeed(api.Deed{}); e != api.ErrDeed {
		t.Error(e)
	}
}

func checkField(t *testing.T, good api.Deed, f limits) {
	t.Helper()
	named := false
	for _, kind := range f.named {
		named = named || kind == good.Kind
	}
	free := good.Kind == api.DeWithdraw && (f.name == "Manor" || f.name == "No")
	if free { // these depend on Of
		return
	}
	if f.name == "Day" && good.Until == 0 && named {
		f.hi = api.MaxDay
	} else if f.name == "Day" {
		f.hi = good.Until
	}
	for n, ok := range map[int]bool{f.lo - 1: false, f.lo: named, f.hi: named, f.hi + 1: false, -1 << 60: false, 1 << 60: false} {
		x := good
		*f.field(&x) = n
		wanted := api.ErrDeed
		if ok || !named && n == 0 {
			wanted = api.OK
		}
		if e := stint.CheckDeed(x); e != wanted {
			t.Error(good.Kind, f.name, n, e)
		}
	}
}

// P2.1: what a withdrawal names is an earlier item of its manor; To is another holding; nothing else has an Of.
func TestCheckNamed(t *testing.T) {
	item := func(manor, no int) api.Item { return api.Item{Manor: manor, No: no} }
	for _, c := range []struct {
		at, of api.Item
		want   api.Errno
	}{
		{item(0, 1), item(0, 0), api.OK},
		{item(5, 9999), item(5, 0), api.OK},
		{item(5, 9999), item(5, 9998), api.OK},
		{item(0, 0), item(0, 0), api.ErrDeed},
		{item(0, 4), item(0, 5), api.ErrDeed},
		{item(1, 4), item(0, 3), api.ErrDeed},
		{item(0, 4), item(1, 3), api.ErrDeed},
		{item(0, 4), item(0, -1), api.ErrDeed},
		{item(0, 10000), item(0, 1), api.ErrDeed},
		{item(6, 4), item(6, 3), api.ErrDeed},
		{item(-1, 4), item(-1, 3), api.ErrDeed},
	} {
		if e := stint.CheckDeed(api.Deed{At: c.at, Of: c.of}); e != c.want {
			t.Error(c, e)
		}
	}
	for _, x := range []api.Deed{split(7, 7, 1, 1, 1), join(7, 7, 1), let(7, 7, 1, 1, 1, 1)} {
		if e := stint.CheckDeed(x); e != api.ErrDeed {
			t.Error(x, e)
		}
	}
	for _, x := range goodDeeds()[1:] {
		for _, of := range []api.Item{item(0, 1), item(1, 0), item(0, -1)} {
			x.Of = of
			if e := stint.CheckDeed(x); e != api.ErrDeed {
				t.Error(x, e)
			}
		}
	}
	last := let(1, 2, 1, 1, api.MaxDay, api.MaxDay)
	if e := stint.CheckDeed(last); e != api.OK {
		t.Error(e)
	}
}

// P2.1: commons, at their limits and one beyond them; nil and empty lists are the same.
func TestCheck(t *testing.T) {
	for _, c := range []api.Common{
		{},
		{Pastures: []api.Pasture{}, Byelaws: []api.Byelaw{}, Deeds: []api.Deed{}},
		example(),
		fullCommon(),
		{Byelaws: []api.Byelaw{{Source: 9, Pasture: 4}, {Source: 9, Pasture: 4, From: 1}, {Source: 8, Pasture: 5}}},
		{Deeds: []api.Deed{right(5, 99, 1, 1)}},
	} {
		if e := stint.Check(c); e != api.OK {
			t.Error(c, e)
		}
	}
	for i, c := range badCommons() {
		if e := stint.Check(c); e != api.ErrCommon {
			t.Error(i, e)
		}
	}
}
