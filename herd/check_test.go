package herd_test

import (
	"testing"

	"pinfold/api"
	"pinfold/herd"
)

// P4.1: Source and ItemOf at the limits, and beyond them.
func TestSources(t *testing.T) {
	for source, at := range map[int]api.Item{1: {}, 2: {No: 1}, 10000: {No: 9999}, 10001: {Manor: 1}, 23457: {Manor: 2, No: 3456}, 50001: {Manor: 5}, 60000: {Manor: 5, No: 9999}} {
		if n := herd.Source(at); n != source {
			t.Error(at, n, source)
		}
		got, e := herd.ItemOf(source)
		want(t, "ItemOf", got, e, at, api.OK)
	}
	for _, at := range []api.Item{{Manor: -1}, {Manor: -1, No: 9999}, {Manor: 6}, {No: -1}, {Manor: 1, No: -1}, {No: 10000}, {Manor: 6, No: 10000}, {Manor: 1 << 62}, {No: 1<<63 - 1}} {
		if n := herd.Source(at); n != 0 {
			t.Error(at, n)
		}
	}
	for _, source := range []int{0, -1, 60001, api.MaxSource, 1<<63 - 1, -1 << 63} {
		got, e := herd.ItemOf(source)
		want(t, "ItemOf", got, e, api.Item{}, api.ErrSource)
	}
	for source := 1; source <= 60000; source++ {
		at, e := herd.ItemOf(source)
		if e != api.OK || herd.Source(at) != source {
			t.Fatal(source, at, e)
		}
	}
}

// numbersIn has all numbers of an event but its kind.
func numbersIn(x *api.Event) map[string]*int {
	l := map[string]*int{"Manor": &x.At.Manor, "No": &x.At.No, "Day": &x.Day, "Known": &x.Known, "Beast": &x.Beast, "Dam": &x.Dam,
		"Sort": &x.Sort, "Owner": &x.Owner, "Of.Manor": &x.Of.Manor, "Of.No": &x.Of.No}
	for i := range x.Seen {
		l["Seen"+string(rune('0'+i))] = &x.Seen[i]
	}
	return l
}

// rangesOf has what the chapter allows the numbers of a kind of events to be, in an event of eventOf; all others are 0.
func rangesOf(kind int) map[string]api.Range {
	r := map[string]api.Range{"Manor": {Hi: 5}, "No": {Hi: 9999}, "Known": {Hi: 100000}, "Day": {Hi: 100000}, "Beast": {Lo: 1, Hi: 9999}}
	switch kind {
	case api.EvWithdraw:
		return map[string]api.Range{"Manor": {Lo: 4, Hi: 4}, "No": {Lo: 8, Hi: 9999}, "Known": {Hi: 100000}, "Of.Manor": {Lo: 4, Hi: 4}, "Of.No": {Hi: 8}}
	case api.EvBorn:
		r["Dam"] = api.Range{Hi: 9999}
		r["Sort"] = api.Range{Lo: 1, Hi: 9}
		r["Owner"] = api.Range{Lo: 1, Hi: 99}
	case api.EvStray:
		r["Sort"] = api.Range{Lo: 1, Hi: 9}
	case api.EvSold, api.EvFound:
		r["Owner"] = api.Range{Lo: 1, Hi: 99}
	case api.EvSeen:
		for i := range api.Places {
			r["Seen"+string(rune('0'+i))] = api.Range{Lo: 1, Hi: 31}
		}
	}
	return r
}

// eventOf is a valid event of a kind.
func eventOf(kind int) api.Event {
	x := []api.Event{withdraw(7, 3), born(10, 2, 3, 40, 5), stray(10, 2, 5), sold(10, 3, 5), seen(10, 5, readsAny), found(10, 3, 5), died(10, 5)}[kind]
	x.At = api.Item{Manor: 4, No: 9}
	if kind == api.EvWithdraw {
		x.Of.Manor = 4
	}
	return x
}

// P4.1: CheckEvent at the limits of all numbers of each kind, and beyond them.
func TestCheckEvent(t *testing.T) {
	for kind := range api.EvDied + 1 {
		ranges := rangesOf(kind)
		check := func(name string, n int, wanted api.Errno) {
			x := eventOf(kind)
			*numbersIn(&x)[name] = n
			if name == "No" && kind == api.EvWithdraw {
				x.Of.No = 7 // a lesser one than all that are allowed
			}
			if e := herd.CheckEvent(x); e != wanted {
				t.Error(name, x, e)
			}
		}
		x := eventOf(kind)
		wantErrno(t, "CheckEvent", herd.CheckEvent(x), api.OK)
		for name := range numbersIn(&x) {
			r := ranges[name]
			check(name, r.Lo, api.OK)
			check(name, r.Hi, api.OK)
			for _, n := range []int{r.Lo - 1, r.Hi + 1, -1 << 63, 1<<63 - 1} {
				check(name, n, api.ErrEvent)
			}
		}
	}
}

// P4.1: kinds that there are not, a beast that bore itself, withdrawals of what is not ahead of them.
func TestCheckOddEvents(t *testing.T) {
	for kind := range api.EvDied + 1 {
		for _, other := range []int{-1, 7, 40, 1<<63 - 1, -1 << 63} {
			x := eventOf(kind)
			x.Kind = other
			wantErrno(t, "kind", herd.CheckEvent(x), api.ErrEvent)
		}
	}
	wantErrno(t, "own dam", herd.CheckEvent(born(10, 1, 1, 10, 1)), api.ErrEvent)
	wantErrno(t, "no kind", herd.CheckEvent(api.Event{Kind: 7}), api.ErrEvent)
	for _, c := range []struct {
		at, of api.Item
		want   api.Errno
	}{
		{api.Item{}, api.Item{}, api.ErrEvent},
		{item(1), item(0), api.OK},
		{item(1), item(1), api.ErrEvent},
		{item(1), item(2), api.ErrEvent},
		{item(1), item(-1), api.ErrEvent},
		{api.Item{Manor: 1, No: 1}, item(0), api.ErrEvent},
		{item(1), api.Item{Manor: 1}, api.ErrEvent},
		{api.Item{Manor: 5, No: 9999}, api.Item{Manor: 5, No: 9998}, api.OK},
		{api.Item{Manor: 6, No: 2}, api.Item{Manor: 6, No: 1}, api.ErrEvent},
		{api.Item{Manor: 1, No: 10000}, api.Item{Manor: 1, No: 1}, api.ErrEvent},
	} {
		x := withdraw(0, 1)
		x.At, x.Of = c.at, c.of
		if e := herd.CheckEvent(x); e != c.want {
			t.Error(c, e)
		}
	}
}

// P4.1: readings of which a place has no set, or a set of other signs.
func TestCheckSeen(t *testing.T) {
	for _, r := range []api.Reading{{}, {1, 1, 1, 1, 1}, {0, 1, 1, 1, 1, 1}, {32, 1, 1, 1, 1, 1}, {1, 1, 1, -1, 1, 1}} {
		wantErrno(t, "Seen", herd.CheckEvent(seen(1, 1, r)), api.ErrEvent)
	}
}

// P4.1: Check of lists, with as many events as there may be, and one more.
func TestCheck(t *testing.T) {
	for _, l := range [][]api.Event{nil, {}, example(), fullList(), {died(1, 1)}} {
		wantErrno(t, "Check", herd.Check(l), api.OK)
	}
	for i, l := range badLists() {
		if e := herd.Check(l); e != api.ErrEvents {
			t.Error(i, e)
		}
	}
	for kind := range api.EvDied + 1 {
		x := eventOf(kind)
		wantErrno(t, "a kind", herd.Check([]api.Event{x}), api.OK)
		x.Known = -1
		wantErrno(t, "a bad one", herd.Check([]api.Event{died(1, 1), x}), api.ErrEvents)
	}
}
