package roll

import (
	"slices"

	"pinfold/api"
)

// desk is an office that is changed.
type desk struct{ api.Office }

// sitDown returns the desk of an office; ErrOffice if this is not valid.
func sitDown(m api.Office) (*desk, api.Errno) {
	if e := checkOffice(m); e != api.OK {
		return nil, e
	}
	m.Written = slices.Clone(m.Written)
	return &desk{m}, api.OK
}

func (d *desk) write(x api.Record) api.Errno {
	rolls, written, e := Write(d.Rolls, d.Written, x)
	if e == api.OK {
		d.Rolls, d.Written = rolls, written
	}
	return e
}

// take writes the records of a letter, but those that come too early.
func (d *desk) take(l []api.Record) api.Errno {
	for _, x := range l {
		if countsOf(d.Written).skips(x) {
			continue
		}
		if e := d.write(x); e != api.OK {
			return e
		}
	}
	return api.OK
}

// seal makes sure that what a letter says to be there is never lost.
func (d *desk) seal() { d.Rolls = Seal(d.Rolls) }

// learn keeps how many records another manor is known to have.
func (d *desk) learn(from int, have counts) {
	for manor, n := range have {
		d.Known[from][manor] = max(d.Known[from][manor], n)
	}
}

// letter writes one that has no records.
func (d *desk) letter(to int, asks bool) api.Letter {
	return api.Letter{From: d.Me, To: to, Asks: asks, Have: countsOf(d.Written)}
}

// answer writes a letter with the first records that another manor has not.
func (d *desk) answer(to int, have counts) api.Letter {
	x := d.letter(to, false)
	missing := slices.DeleteFunc(sorted(d.Written), have.has)
	x.Records = missing[:min(len(missing), api.MaxCarry)]
	return x
}

// NewOffice makes a manor's office.
func NewOffice(me int) (api.Office, api.Errno) {
	if !validManor(me) {
		return api.Office{}, api.ErrArg
	}
	return api.Office{Me: me}, api.OK
}

// Note writes a record of the office's own.
func Note(m api.Office, r api.Record) (api.Office, api.Record, api.Errno) {
	d, e := sitDown(m)
	if e != api.OK {
		return api.Office{}, api.Record{}, e
	}
	r.At = api.Item{Manor: d.Me, No: countsOf(d.Written)[d.Me]}
	if e := d.write(r); e != api.OK {
		return api.Office{}, api.Record{}, e
	}
	return d.Office, r, api.OK
}

// Ask writes a letter that asks another manor for records.
func Ask(m api.Office, to int) (api.Office, api.Letter, api.Errno) {
	d, e := sitDown(m)
	if e != api.OK {
		return api.Office{}, api.Letter{}, e
	}
	if !validManor(to) || to == d.Me {
		return api.Office{}, api.Letter{}, api.ErrArg
	}
	d.seal()
	return d.Office, d.letter(to, true), api.OK
}

// Receive takes a letter, and returns the letters that are written then.
func Receive(m api.Office, x api.Letter) (api.Office, []api.Letter, api.Errno) {
	d, e := sitDown(m)
	if e != api.OK {
		return api.Office{}, nil, e
	}
	if checkLetter(x) != api.OK || x.To != d.Me {
		return api.Office{}, nil, api.ErrLetter
	}
	if e := d.take(x.Records); e != api.OK {
		return api.Office{}, nil, e
	}
	d.seal()
	d.learn(x.From, x.Have)
	var letters []api.Letter
	switch {
	case x.Asks:
		letters = append(letters, d.answer(x.From, x.Have))
	case len(d.Written) > len(m.Written):
		letters = append(letters, d.letter(x.From, true))
	}
	return d.Office, letters, api.OK
}

// Restart returns an office behind a failure, and maybe a fire.
func Restart(m api.Office, picks []int) (api.Office, api.Errno) {
	d, e := sitDown(m)
	if e != api.OK {
		return api.Office{}, e
	}
	rolls := Tear(d.Rolls, picks)
	switch modulo(pickAt(picks, 2*picksOfTear), 3) {
	case 1:
		rolls = Burn(rolls, false)
	case 2:
		rolls = Burn(rolls, true)
	}
	d.Rolls, d.Written = Open(rolls)
	d.Known = [api.MaxManors][api.MaxManors]int{}
	return d.Office, api.OK
}
