package court

import (
	"pinfold/api"
	"pinfold/drive"
	"pinfold/fine"
	"pinfold/herd"
	"pinfold/march"
	"pinfold/mark"
	"pinfold/pen"
	"pinfold/plaint"
	"pinfold/stint"
)

// questions are the commands that ask for marks, beasts, rights and drives.
func (t *task) questions() map[int]way {
	return map[int]way{
		api.CmdReads: t.reads, api.CmdLook: t.look, api.CmdNext: t.next,
		api.CmdBeast: t.beast, api.CmdBearers: t.bearers, api.CmdWrong: t.wrong, api.CmdAlive: t.alive, api.CmdMoved: t.moved,
		api.CmdUse: t.use, api.CmdTotal: t.total, api.CmdMost: t.most,
		api.CmdCount: t.count, api.CmdProve: t.prove, api.CmdOver: t.over, api.CmdWhose: t.whose,
		api.CmdPlace: t.place, api.CmdRefuse: t.refusal, api.CmdFewest: t.fewest,
	}
}

// dues are the commands that ask for what is due, and for what is where.
func (t *task) dues() map[int]way {
	return map[int]way{
		api.CmdLot: t.lot, api.CmdCharge: t.charge, api.CmdDue: t.due,
		api.CmdPosts: t.posts, api.CmdBalance: t.balance, api.CmdInside: t.inside,
		api.CmdAllowed: t.allowed, api.CmdRefused: t.refused, api.CmdShort: t.short,
		api.CmdOwed: t.owed, api.CmdLevies: t.levies,
		api.CmdWhere: t.where, api.CmdRiding: t.riding, api.CmdHere: t.here, api.CmdRecords: t.records,
	}
}

// herd, land, account and plea are what there is of the manor that the command is for.
func (t *task) herd() []api.Event { return t.events(t.manor()) }

func (t *task) land() api.Common { return t.common(t.manor()) }

func (t *task) account() api.Account { return t.Account(t.manor()) }

func (t *task) plea() api.Case { return t.caseOf(t.manor()) }

// driven is the drive on the days that the last two numbers are.
func (t *task) driven() api.Drive { return need(t.drive(t.manor(), t.lastDays())) }

func (t *task) reading() api.Reading {
	var r api.Reading
	copy(r[:], t.args)
	return r
}

func (t *task) reads() []string { return list(need(mark.Owners(t.setting.Marks, t.reading()))) }

func (t *task) look() []string { return list(need(mark.Look(t.setting.Marks, t.reading()))) }

func (t *task) next() []string {
	m := need(mark.Next(t.setting.Marks))
	return list(m[:])
}

func (t *task) beast() []string {
	b := need(herd.Beast(t.herd(), t.args[1], t.args[2]))
	return one(row(b.Sort, b.Dam, b.Owner, b.Bearer, b.Born, b.Died, bit(b.Found)))
}

func (t *task) bearers() []string {
	return list(need(herd.Bearers(t.setting.Marks, t.herd(), t.args[1], t.args[2])))
}

func (t *task) wrong() []string {
	return list(need(herd.Wrong(t.setting.Marks, t.herd(), t.args[1])))
}

func (t *task) alive() []string { return list(need(herd.Alive(t.herd(), t.args[1], t.args[2]))) }

func (t *task) moved() []string {
	of := api.Item{Manor: t.args[2], No: t.args[3]}
	return list(need(herd.Moved(t.setting.Marks, t.herd(), of, t.args[1])))
}

func (t *task) use() []string {
	return one(row(need(stint.Use(t.land(), t.args[1], t.args[2], t.lastDays()))))
}

func (t *task) total() []string {
	return one(row(need(stint.Total(t.land(), t.args[1], t.lastDays()))))
}

func (t *task) most() []string {
	return one(row(need(stint.Most(t.land(), t.args[1], t.args[2], t.args[3], t.lastDays()))))
}

func (t *task) count() []string {
	n := need(drive.Count(t.driven(), t.args[1], t.args[2]))
	return one(row(n.Lo, n.Hi))
}

func (t *task) prove() []string {
	d, owner, sort := t.driven(), t.args[1], t.args[2]
	n := need(drive.Count(d, owner, sort))
	return []string{worded(boundWord, n.Lo), worded(proofWord, need(drive.Prove(d, owner, sort))...)}
}

func (t *task) over() []string {
	d, c, w := t.driven(), t.land(), t.lastDays()
	owner, pasture := t.args[1], t.args[2]
	b := need(stint.InForce(c, pasture, w.Day))
	open := need(stint.Open(c, pasture, w))
	right := 0
	for _, holding := range need(stint.Owned(c, owner, w)) {
		if open {
			right += need(stint.Use(c, holding, pasture, w))
		}
	}
	return judgement(need(drive.Over(d, owner, api.Rates(b.Parts), right)))
}

func (t *task) whose() []string {
	return judgement(need(drive.Whose(t.driven(), t.args[1], t.args[2])))
}

func (t *task) place() []string { return list(need(pen.Place(t.setting.Yard, t.setting.Sorts))) }

func (t *task) fewest() []string { return list(need(pen.Fewest(t.setting.Yard, t.setting.Sorts))) }

func (t *task) refusal() []string {
	r := need(pen.Refuse(t.setting.Yard, t.setting.Sorts))
	return list(append([]int{r.Kind}, r.Beasts...))
}

func (t *task) lot() []string {
	x := need(fine.Lot(t.account(), t.args[1], t.args[2]))
	return one(row(x.Owner, x.Stop, x.End, x.Day))
}

func (t *task) charge() []string {
	x := need(fine.Charged(t.account(), t.args[1], t.args[2]))
	return one(row(x.Head, x.Feed, x.Fine))
}

func (t *task) due() []string {
	x := need(fine.Dues(t.account(), t.args[1], t.args[2]))
	return one(row(x.Payer, x.Hayward, x.Driver, x.Lord))
}

func (t *task) posts() []string {
	l := need(fine.Posts(t.account(), t.args[1:]))
	return rows(l, func(x api.Posting) string { return row(x.Day, x.Stay, x.From, x.To, x.Amount) })
}

func (t *task) balance() []string {
	return one(row(need(fine.Balance(t.account(), t.args[2:], t.args[1]))))
}

func (t *task) inside() []string { return list(need(fine.Inside(t.account(), t.args[1]))) }

func (t *task) allowed() []string { return list(need(plaint.Allowed(t.plea(), t.args[1]))) }

func (t *task) refused() []string { return list(need(plaint.Refused(t.plea(), t.args[1]))) }

func (t *task) short() []string { return list(need(plaint.Short(t.plea(), t.args[1]))) }

func (t *task) owed() []string {
	return one(row(need(plaint.Owed(t.plea(), t.args[1], t.args[2], t.args[3]))))
}

func (t *task) levies() []string {
	l := need(plaint.Levies(t.plea(), t.args[1]))
	return rows(l, func(x api.Levy) string { return row(x.Known, x.Plaint, x.Surety, x.Amount) })
}

func (t *task) where() []string { return list(need(march.Where(t.pounds[:], t.args[0]))) }

func (t *task) riding() []string {
	l := need(march.Riding(t.pounds[:], t.args[0]))
	return rows(l, func(x api.Ride) string { return row(x.No, x.To, x.Beast, bit(x.Called)) })
}

func (t *task) here() []string { return list(need(march.Here(t.pound()))) }

func (t *task) records() []string { return rows(t.offices[:], countOf) }
