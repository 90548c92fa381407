package court

import (
	"cmp"
	"slices"

	"pinfold/api"
	"pinfold/fine"
	"pinfold/mark"
	"pinfold/pen"
	"pinfold/plaint"
	"pinfold/stint"
)

// setups are the commands that tell what records do not.
func (t *task) setups() map[int]way {
	return map[int]way{
		api.CmdWear: t.wear, api.CmdFalse: t.allowFalse, api.CmdMark: t.mark, api.CmdUnmark: t.unmark, api.CmdGive: t.give,
		api.CmdPasture: t.pasture, api.CmdByelaw: t.byelaw,
		api.CmdPen: t.pen, api.CmdKind: t.kindOfBeasts, api.CmdSort: t.sort,
		api.CmdTariff: t.tariff, api.CmdRate: t.rate,
		api.CmdSurety: t.surety, api.CmdPlaint: t.plaint, api.CmdNames: t.names, api.CmdBacks: t.backs,
		api.CmdCounted: t.counted, api.CmdClear: t.clear,
	}
}

// keepMarks puts another mark book in the place of the one that there was.
func (t *task) keepMarks(b api.Marks, e api.Errno) []string {
	refuse(e)
	t.setting.Marks = b
	return done()
}

func (t *task) wear() []string {
	b := t.setting.Marks
	copy(b.Wear[:], t.args)
	return t.keepMarks(b, mark.Check(b))
}

func (t *task) allowFalse() []string {
	b := t.setting.Marks
	b.False = t.args[0]
	return t.keepMarks(b, mark.Check(b))
}

func (t *task) mark() []string {
	g := api.Given{Owner: t.args[0]}
	copy(g.Mark[:], t.args[1:])
	return t.keepMarks(mark.Add(t.setting.Marks, g))
}

func (t *task) unmark() []string { return t.keepMarks(mark.Take(t.setting.Marks, t.args[0])) }

func (t *task) give() []string { return t.keepMarks(mark.Give(t.setting.Marks, t.args[0])) }

func (t *task) pasture() []string {
	p := api.Pasture{Id: t.args[0], Season: api.Range{Lo: t.args[1], Hi: t.args[2]}}
	refuse(stint.CheckPasture(p))
	byId := func(a, b api.Pasture) int { return cmp.Compare(a.Id, b.Id) }
	t.setting.Pastures = atMost(api.MaxPastures, put(t.setting.Pastures, p, byId))
	return done()
}

func (t *task) byelaw() []string {
	x := api.Byelaw{Source: t.args[0], Pasture: t.args[1], From: t.args[2]}
	copy(x.Parts[1:], t.args[3:])
	refuse(stint.CheckByelaw(x))
	byPasture := func(a, b api.Byelaw) int {
		return cmp.Or(cmp.Compare(a.Pasture, b.Pasture), cmp.Compare(a.From, b.From))
	}
	t.setting.Byelaws = atMost(api.MaxByelaws, put(t.setting.Byelaws, x, byPasture))
	return done()
}

// keepYard puts another yard in the place of the one that there was.
func (t *task) keepYard(y api.Yard) []string {
	refuse(pen.CheckYard(y))
	t.setting.Yard = y
	return done()
}

func (t *task) pen() []string {
	y := t.setting.Yard
	y.Pens = slices.Concat(y.Pens, t.args)
	return t.keepYard(y)
}

func (t *task) kindOfBeasts() []string {
	y := t.setting.Yard
	k := api.Kind{Sort: t.args[0], Room: t.args[1], Eats: t.args[2], Apart: t.args[3]}
	y.Kinds = put(y.Kinds, k, func(a, b api.Kind) int { return cmp.Compare(a.Sort, b.Sort) })
	return t.keepYard(y)
}

func (t *task) sort() []string {
	t.setting.Sorts = atMost(api.MaxInside, slices.Concat(t.setting.Sorts, t.args))
	return done()
}

// keepTariff puts a tariff in the place of the one that is in force from the same day on.
func (t *task) keepTariff(x api.Tariff) []string {
	refuse(fine.CheckTariff(x))
	byFrom := func(a, b api.Tariff) int { return cmp.Compare(a.From, b.From) }
	t.setting.Tariffs = atMost(api.MaxTariffs, put(t.setting.Tariffs, x, byFrom))
	return done()
}

func (t *task) tariff() []string {
	return t.keepTariff(api.Tariff{From: t.args[0], Feed: t.args[1], Hayward: t.args[2], Driver: t.args[3]})
}

func (t *task) rate() []string {
	from, sort := t.args[0], t.args[1]
	i := slices.IndexFunc(t.setting.Tariffs, func(x api.Tariff) bool { return x.From == from })
	require(i >= 0, api.ErrNone)
	require(within(sort, 1, api.MaxSort), api.ErrArg)
	x := t.setting.Tariffs[i]
	x.Head[sort], x.Daily[sort] = t.args[2], t.args[3]
	return t.keepTariff(x)
}

func (t *task) surety() []string {
	s := api.Surety{Id: t.args[0], Worth: api.Range{Lo: t.args[1], Hi: t.args[2]}}
	refuse(plaint.CheckSurety(s))
	byId := func(a, b api.Surety) int { return cmp.Compare(a.Id, b.Id) }
	t.setting.Sureties = atMost(api.MaxSureties, put(t.setting.Sureties, s, byId))
	return done()
}

func (t *task) plaint() []string {
	p := api.Plaint{
		Id: t.args[0], Owner: t.args[1], Claim: api.Range{Lo: t.args[2], Hi: t.args[3]},
		Day: t.args[4], Known: t.args[5], Beasts: []int{t.args[6]}, Sureties: []int{t.args[7]},
	}
	t.setting.Plaints = need(plaint.Plead(t.pleas(), p)).Plaints
	return done()
}

func (t *task) names() []string {
	return t.widen(func(p *api.Plaint) *[]int { return &p.Beasts })
}

func (t *task) backs() []string {
	return t.widen(func(p *api.Plaint) *[]int { return &p.Sureties })
}

// widen puts one more number into a list of a plaint.
func (t *task) widen(of func(p *api.Plaint) *[]int) []string {
	id, n := t.args[0], t.args[1]
	c := t.pleas()
	i := slices.IndexFunc(c.Plaints, func(p api.Plaint) bool { return p.Id == id })
	require(i >= 0, api.ErrNone)
	c.Plaints = slices.Clone(c.Plaints)
	l := of(&c.Plaints[i])
	require(!slices.Contains(*l, n), api.ErrArg)
	*l = put(*l, n, cmp.Compare)
	refuse(plaint.Check(c))
	t.setting.Plaints = c.Plaints
	return done()
}

func (t *task) counted() []string {
	no, l := t.args[0], t.setting.Counted
	require(within(no, 1, api.MaxBeast) && !slices.Contains(l, no), api.ErrArg)
	t.setting.Counted = atMost(api.MaxCounted, put(l, no, cmp.Compare))
	return done()
}

func (t *task) clear() []string {
	t.setting.Sorts, t.setting.Counted = nil, nil
	return done()
}
